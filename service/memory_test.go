package service

import (
	"fmt"
	"reflect"
	"slices"
	"testing"

	"skywave/api"
)

// memory is where the items of a slice lie, from its first byte to the one after its last.
type memory struct {
	from, to uintptr
	what     string
}

// memoryOf returns where all slices of a value lie, as far as they reach.
func memoryOf(what string, v reflect.Value) []memory {
	var list []memory
	switch v.Kind() {
	case reflect.Slice:
		size := uintptr(v.Cap()) * v.Type().Elem().Size()
		if size > 0 {
			list = append(list, memory{v.Pointer(), v.Pointer() + size, what})
		}
		for i := range v.Len() {
			list = append(list, memoryOf(fmt.Sprint(what, "[", i, "]"), v.Index(i))...)
		}
	case reflect.Struct:
		for i := range v.NumField() {
			list = append(list, memoryOf(what+"."+v.Type().Field(i).Name, v.Field(i))...)
		}
	case reflect.Pointer, reflect.Interface:
		if !v.IsNil() {
			list = append(list, memoryOf(what, v.Elem())...)
		}
	}
	return list
}

// apart checks that no two slices of several values share memory.
func apart(t *testing.T, what string, values ...any) {
	t.Helper()
	var list []memory
	for i, x := range values {
		list = append(list, memoryOf(fmt.Sprint(i), reflect.ValueOf(x))...)
	}
	for i, x := range list {
		for _, y := range list[:i] {
			if x.from < y.to && y.from < x.to {
				t.Errorf("%s: %s and %s share memory", what, x.what, y.what)
			}
		}
	}
}

// spoilAll overwrites everything that slices of a value hold, as far as their memory reaches.
func spoilAll(v reflect.Value) {
	switch v.Kind() {
	case reflect.Slice:
		for i := range v.Len() {
			spoilAll(v.Index(i))
		}
		whole := v.Slice3(0, v.Cap(), v.Cap())
		for i := range whole.Len() {
			whole.Index(i).SetZero()
		}
	case reflect.Struct:
		for i := range v.NumField() {
			spoilAll(v.Field(i))
		}
	}
}

// R3: results share memory neither with arguments nor with one another, and arguments are not modified.

func TestArgumentsStay(t *testing.T) {
	a := goodArguments()
	show := func() string { return fmt.Sprint(a) }
	before := show()
	all := []any{a.net, a.log, a.other}
	for _, call := range allCalls() {
		got := call.run(a)
		want(t, "arguments after "+call.name, show(), before)
		all = append(all, got...)
		all = append(all, call.run(a)...)
	}
	apart(t, "all results", all...)
	for _, x := range all[3:] {
		spoilAll(reflect.ValueOf(x))
	}
	want(t, "arguments after results were changed", show(), before)
}

// States, products and merged logs of many logs share nothing.
func TestResultsAreApart(t *testing.T) {
	for n, l := range manyLogs {
		s, _ := StateOf(n, l)
		other, _ := StateAt(n, l, 1000000000000)
		merged, left, _ := Merged(n, l, l[:len(l)/2])
		longer, more, _ := Merged(n, l[:len(l)/2], l)
		journal, _ := Journal(n, l)
		recovered, _, _ := Recovered(n, journal)
		all := []any{n, l, s, other, merged, left, longer, more, recovered}
		for _, station := range n.Stations {
			products, _ := ProductsOf(n, l, station)
			sky, _ := SkyOver(n, l, station)
			all = append(all, products, sky)
		}
		for _, views := range viewsOf(n, l) {
			all = append(all, views...)
		}
		apart(t, "the results", all...)
	}
}

// R3: memory beyond the end of a list is not touched.
func TestSpareMemoryStays(t *testing.T) {
	a := goodArguments()
	spare := entry(7, "x", "y")
	log, other := append(a.log, spare), append(a.other, spare)
	people, stations := append(a.net.People, person("x", 7)), append(a.net.Stations, "x")
	numbers, warnings := append(a.net.Code, 7), append(a.net.Warnings, "x")
	a.log, a.other = log[:len(log)-1], other[:len(other)-1]
	a.net.People, a.net.Stations = people[:3], stations[:1]
	a.net.Code, a.net.Warnings = numbers[:3], warnings[:1]
	for _, call := range allCalls() {
		got := call.run(a)
		want(t, call.name, got[len(got)-1], api.OK)
	}
	d := newDesk(t, a.net)
	enterAll(t, d, a.log)
	a.question = "stations"
	Answer(a.net, a.log, a.question)
	want(t, "what is behind the lists",
		results(log[len(log)-1], other[len(other)-1], people[3], stations[1], numbers[3], warnings[1]),
		results(spare, spare, person("x", 7), "x", 7, "x"))
}

// A desk keeps no memory of its net, and gives none of its own.
func TestDeskKeepsNoMemory(t *testing.T) {
	n, l := fourNet(), exampleLog()
	given := fourNet()
	d := newDesk(t, given)
	apart(t, "the net and the desk", given, *d)
	enterAll(t, d, l)
	spoilAll(reflect.ValueOf(given))
	checkDesk(t, d, n, l)
	first, second := d.Log(), d.Log()
	apart(t, "the logs and the desk", first, second, *d)
	spoilAll(reflect.ValueOf(first))
	want(t, "the other log", second, l)
	checkDesk(t, d, n, l)
	// The log that was given is not changed by what the desk does later.
	before := d.Log()
	want(t, "Undo", d.Undo(), api.OK)
	want(t, "Enter", d.Enter(99, "ola", "note x"), api.OK)
	want(t, "the log before", before, l)
	want(t, "the log after", d.Log(), append(slices.Clone(l[:19]), entry(99, "ola", "note x")))
}

// R4: a call does not depend on earlier ones.
func TestCallsAreAlike(t *testing.T) {
	for range 2 {
		for n, l := range manyLogs {
			if len(l) > 20 {
				continue
			}
			s, e := StateOf(n, l)
			before := fmt.Sprint(s, e)
			spoilAll(reflect.ValueOf(s))
			s, e = StateOf(n, l)
			want(t, "StateOf", fmt.Sprint(s, e), before)
		}
	}
}
