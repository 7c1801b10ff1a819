package station

import (
	"slices"
	"testing"

	"skywave/api"
)

// goesBefore is the definition of what goes before what.
func goesBefore(q []api.StationItem, i, j int) bool {
	a, b := q[i], q[j]
	if a.Priority != b.Priority {
		return a.Priority > b.Priority
	}
	if a.Tick != b.Tick {
		return a.Tick < b.Tick
	}
	return i < j
}

// lastByDefinition is the item that all others go before.
func lastByDefinition(q []api.StationItem) int {
	for i := range q {
		isLast := true
		for j := range q {
			isLast = isLast && (i == j || goesBefore(q, j, i))
		}
		if isLast {
			return i
		}
	}
	return -1
}

// P9.2

func TestCheckQueue(t *testing.T) {
	for _, q := range goodQueues() {
		i, e := CheckQueue(q)
		want(t, "CheckQueue", results(i, e), results(0, api.OK))
	}
	for _, name := range goodNames() {
		i, e := CheckQueue([]api.StationItem{item("x", 1, 1, 1), item(name, 9, 10000, 1000000000000), item("y", 0, 1, 0)})
		want(t, "CheckQueue of "+name, results(i, e), results(0, api.OK))
	}
	for _, x := range badQueues() {
		i, e := CheckQueue(x.q)
		want(t, "CheckQueue", results(len(x.q), i, e), results(len(x.q), x.index, x.e))
	}
}

// exampleItem is that of the chapter's example 3, with another priority and size.
func exampleItem(priority, size int) api.StationItem { return item("c", priority, size, 6) }

func TestPut(t *testing.T) {
	for _, x := range []struct {
		x        api.StationItem
		capacity int
		left     string
		dropped  []string
	}{
		{exampleItem(1, 30), 100, "ab", []string{"c"}},
		{exampleItem(1, 20), 100, "abc", nil},
		{exampleItem(1, 21), 100, "ab", []string{"c"}},
		{exampleItem(3, 20), 60, "bc", []string{"a"}},
		{exampleItem(3, 30), 59, "c", []string{"a", "b"}},
		{exampleItem(3, 30), 30, "c", []string{"a", "b"}},
		{exampleItem(3, 30), 29, "", []string{"a", "b", "c"}}, // greater than the capacity
		{exampleItem(2, 10000), 100, "", []string{"a", "b", "c"}},
		{exampleItem(0, 10000), 100, "ab", []string{"c"}},
		{exampleItem(1, 10000), 50, "b", []string{"c", "a"}},
		{exampleItem(1, 1), 81, "abc", nil},
		{exampleItem(1, 1), 80, "ab", []string{"c"}},
		{exampleItem(1, 1), 79, "b", []string{"c", "a"}},
		{exampleItem(1, 1), 0, "", []string{"c", "a", "b"}},
		{exampleItem(1, 10000), 200000, "abc", nil},
	} {
		after, dropped, e := Put(exampleQueue(), x.x, x.capacity)
		left := ""
		for _, y := range after {
			left += y.Name
		}
		want(t, "Put", results(x.x, x.capacity, left, dropped, e), results(x.x, x.capacity, x.left, x.dropped, api.OK))
	}
	after, dropped, e := Put(nil, exampleItem(1, 30), 30)
	want(t, "Put into the empty queue", results(after, dropped, e), results([]api.StationItem{exampleItem(1, 30)}, []string{}, api.OK))
	after, dropped, e = Put(nil, exampleItem(1, 30), 29)
	want(t, "Put into the empty queue", results(after, dropped, e), results([]api.StationItem{}, []string{"c"}, api.OK))
}

// Of items with the same priority and tick the new one is dropped first.
func TestPutTheSame(t *testing.T) {
	q := []api.StationItem{item("a", 1, 5, 5), item("b", 1, 5, 5)}
	after, dropped, e := Put(q, item("c", 1, 5, 5), 10)
	want(t, "Put", results(after, dropped, e), results(q, []string{"c"}, api.OK))
	after, dropped, e = Put(q, item("c", 1, 5, 5), 5)
	want(t, "Put", results(after, dropped, e), results(q[:1], []string{"c", "b"}, api.OK))
}

func TestPutRefused(t *testing.T) {
	full := goodQueues()[5]
	want(t, "the size of the full queue", len(full), 20)
	for _, x := range badItems() {
		for _, q := range [][]api.StationItem{{item("a", 1, 1, 1)}, append([]api.StationItem{item("a", 1, 1, 1)}, full[1:]...)} {
			after, dropped, e := Put(q, x.x, 100)
			refused(t, "Put", x.e, after, dropped, e)
			after, dropped, e = Put(q, x.x, -1)
			refused(t, "Put with a bad capacity", x.e, after, dropped, e)
		}
	}
	for _, capacity := range outsideOf(0, 200000) {
		for _, q := range [][]api.StationItem{nil, exampleQueue(), full} {
			after, dropped, e := Put(q, exampleItem(1, 1), capacity)
			refused(t, "Put", api.ErrRange, after, dropped, e)
		}
	}
	for _, capacity := range []int{0, 100, 200000} {
		after, dropped, e := Put(full, exampleItem(1, 1), capacity)
		refused(t, "Put into a full queue", api.ErrLarge, after, dropped, e)
		_, _, e = Put(full[1:], exampleItem(1, 1), capacity)
		want(t, "Put as the last item", e, api.OK)
	}
}

// P9.2 and P9.8

func TestPutByDefinition(t *testing.T) {
	for seed := range 300 {
		q := irregularQueue(seed, 19)
		next := numbers(seed)
		x := item("new", next(4), 1+next(100), next(5))
		all := append(slices.Clone(q), x)
		capacity := next(sizeOf(all) + 50)
		capacity = min(capacity, 200000)
		left, sum := slices.Clone(all), 0
		for _, y := range all {
			sum += y.Size
		}
		var names []string
		for sum > capacity {
			i := lastByDefinition(left)
			sum -= left[i].Size
			names = append(names, left[i].Name)
			left = slices.Delete(left, i, i+1)
		}
		after, dropped, e := Put(q, x, capacity)
		want(t, "Put", results(after, dropped, e), results(left, names, api.OK))
		checkDropped(t, all, after, dropped, capacity)
	}
}

// checkDropped checks that nothing that was dropped goes before anything that stays, and that this is not too much.
func checkDropped(t *testing.T, all, after []api.StationItem, dropped []string, capacity int) {
	t.Helper()
	sum := 0
	for _, x := range after {
		sum += x.Size
	}
	if sum > capacity {
		t.Errorf("what stays has the size %d, more than %d", sum, capacity)
	}
	want(t, "the number of items", len(after)+len(dropped), len(all))
	for i, x := range all {
		for j, y := range all {
			if slices.Contains(dropped, x.Name) && slices.Contains(after, y) && goesBefore(all, i, j) {
				t.Errorf("%v was dropped, but goes before %v", x, y)
			}
		}
	}
}

func TestOrderOf(t *testing.T) {
	for _, x := range []struct {
		q     []api.StationItem
		order []int
	}{
		{nil, nil},
		{exampleQueue(), []int{1, 0}},
		{append(exampleQueue(), exampleItem(1, 30)), []int{1, 0, 2}},
		{append(exampleQueue(), exampleItem(2, 1)), []int{2, 1, 0}},
		{append(exampleQueue(), exampleItem(9, 10000)), []int{2, 1, 0}},
		{append(exampleQueue(), item("c", 2, 1, 7)), []int{1, 2, 0}},
		{append(exampleQueue(), item("c", 0, 1, 0)), []int{1, 0, 2}},
		{[]api.StationItem{item("c", 1, 1, 1), item("b", 1, 2, 1), item("a", 1, 3, 1)}, []int{0, 1, 2}},
		{[]api.StationItem{item("a", 0, 1, 1000000000000), item("b", 0, 1, 0), item("c", 9, 1, 1000000000000)}, []int{2, 1, 0}},
	} {
		order, e := OrderOf(x.q)
		want(t, "OrderOf", results(order, e), results(x.order, api.OK))
	}
	for _, q := range goodQueues() {
		order, e := OrderOf(q)
		want(t, "the error of OrderOf", e, api.OK)
		want(t, "the indexes of OrderOf", len(order), len(q))
		for k := 1; k < len(order); k++ {
			if !goesBefore(q, order[k-1], order[k]) {
				t.Errorf("OrderOf %v: %v, but %d goes before %d", q, order, order[k], order[k-1])
			}
		}
	}
}

func TestSentBy(t *testing.T) {
	q := exampleQueue()
	for _, x := range []struct {
		q            []api.StationItem
		begin, units int
		ends         []int
	}{
		{q, 10, 40, []int{12, 11}},
		{q, 0, 40, []int{2, 1}},
		{q, 10, 1, []int{90, 40}},
		{q, 10, 30, []int{13, 11}},
		{q, 10, 29, []int{13, 12}},
		{q, 10, 79, []int{12, 11}},
		{q, 10, 80, []int{11, 11}},
		{q, 10, 10000, []int{11, 11}},
		{q, 1000000000000, 7, []int{1000000000012, 1000000000005}},
		{nil, 10, 40, nil},
	} {
		ends, e := SentBy(x.q, api.StationLink{Begin: x.begin, Units: x.units})
		want(t, "SentBy", results(ends, e), results(x.ends, api.OK))
	}
	for seed, q := range goodQueues() {
		next := numbers(seed)
		link := api.StationLink{Begin: next(1000), Units: 1 + next([]int{3, 100, 10000}[seed%3])}
		var expected []int
		for i, x := range q {
			sum := x.Size
			for j, y := range q {
				if goesBefore(q, j, i) {
					sum += y.Size
				}
			}
			ticks := 0
			for ticks*link.Units < sum {
				ticks++
			}
			expected = append(expected, link.Begin+ticks)
		}
		ends, e := SentBy(q, link)
		want(t, "SentBy", results(ends, e), results(expected, api.OK))
	}
}
