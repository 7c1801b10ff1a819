package station

import (
	"cmp"
	"slices"

	"skywave/api"
)

const maxCapacity = 20 * api.MaxStationSize

// CheckQueue returns the error of a queue, and the index of the item.
func CheckQueue(q []api.StationItem) (int, api.Errno) {
	if len(q) > api.MaxStationItems {
		return 0, api.ErrLarge
	}
	return firstBad(q, func(i int, x api.StationItem) api.Errno { return itemError(q[:i], x) })
}

// Put returns the queue after an item was put into it, and the names of the items that were dropped.
func Put(q []api.StationItem, x api.StationItem, capacity int) ([]api.StationItem, []string, api.Errno) {
	e := firstError(
		queueError(q),
		itemError(q, x),
		rangeError(capacity, 0, maxCapacity),
		errorIf(len(q) == api.MaxStationItems, api.ErrLarge),
	)
	if e != api.OK {
		return nil, nil, e
	}
	after := append(slices.Clone(q), x)
	var dropped []string
	for sizeOf(after) > capacity {
		order := orderOf(after)
		last := order[len(order)-1]
		dropped = append(dropped, after[last].Name)
		after = slices.Delete(after, last, last+1)
	}
	return after, dropped, api.OK
}

// OrderOf returns the indexes of all items in the order in which they go before each other.
func OrderOf(q []api.StationItem) ([]int, api.Errno) {
	if e := queueError(q); e != api.OK {
		return nil, e
	}
	return orderOf(q), api.OK
}

// SentBy returns for each item of a queue the tick at which a link has sent it.
func SentBy(q []api.StationItem, l api.StationLink) ([]int, api.Errno) {
	e := firstError(
		queueError(q),
		tickError(l.Begin),
		rangeError(l.Units, 1, api.MaxStationSize),
	)
	if e != api.OK {
		return nil, e
	}
	ends := make([]int, len(q))
	size := 0
	for _, i := range orderOf(q) {
		size += q[i].Size
		ends[i] = l.Begin + dividedUp(size, l.Units)
	}
	return ends, api.OK
}

// orderOf sorts the indexes stably: of items with the same priority and tick the one that stands before goes before.
func orderOf(q []api.StationItem) []int {
	var order []int
	for i := range q {
		order = append(order, i)
	}
	slices.SortStableFunc(order, func(i, j int) int {
		return cmp.Or(
			cmp.Compare(q[j].Priority, q[i].Priority),
			cmp.Compare(q[i].Tick, q[j].Tick),
		)
	})
	return order
}

// sizeOf returns the sum of the sizes of all items.
func sizeOf(q []api.StationItem) int {
	size := 0
	for _, x := range q {
		size += x.Size
	}
	return size
}

func queueError(q []api.StationItem) api.Errno {
	_, e := CheckQueue(q)
	return e
}

// itemError returns the error of an item that stands behind those of a queue.
func itemError(q []api.StationItem, x api.StationItem) api.Errno {
	hasItsName := func(y api.StationItem) bool { return y.Name == x.Name }
	return firstError(
		nameError(x.Name),
		errorIf(slices.ContainsFunc(q, hasItsName), api.ErrExists),
		rangeError(x.Priority, 0, api.MaxStationPriority),
		rangeError(x.Size, 1, api.MaxStationSize),
		tickError(x.Tick),
	)
}
