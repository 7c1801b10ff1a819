package service

import (
	"slices"

	"skywave/api"
)

// item is what a log makes, and what is found by its name.
type item interface{ label() string }

type sounding struct{ api.ServiceSound }

type ionogram struct{ api.ServiceGram }

type product struct{ api.ServiceProduct }

type warning struct{ api.ServiceWarning }

type client struct{ api.ServiceClient }

func (s sounding) label() string { return s.Name }

func (g ionogram) label() string { return g.Name }

// A product has no name of its own: it is found by that of its station.
func (p product) label() string { return p.Station }

func (w warning) label() string { return w.Name }

func (c client) label() string { return c.Name }

// placeOf returns the index of the first item with a name, or -1 if there is none.
func placeOf[T item](list []T, name string) int {
	return slices.IndexFunc(list, func(x T) bool { return x.label() == name })
}

func has[T item](list []T, name string) bool {
	return placeOf(list, name) >= 0
}

// found returns the item with a name, or the error of the name.
func found[T item](list []T, name string) (T, api.Errno) {
	i := placeOf(list, name)
	if e := firstError(nameError(name), errorIf(i < 0, api.ErrMissing)); e != api.OK {
		var none T
		return none, e
	}
	return list[i], api.OK
}

// newError returns the error of the name of an item that is to be made.
func newError[T item](list []T, name string) api.Errno {
	return firstError(nameError(name), errorIf(has(list, name), api.ErrExists))
}

func labels[T item](list []T) []string {
	return converted(list, func(x T) string { return x.label() })
}

func converted[T, U any](list []T, convert func(T) U) []U {
	result := make([]U, len(list))
	for i, x := range list {
		result[i] = convert(x)
	}
	return result
}
