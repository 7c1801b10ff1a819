package warn

import (
	"slices"
	"strings"

	"skywave/api"
)

// CheckStore returns the error of a store, and the index of the message.
func CheckStore(l []api.WarnMessage) (int, api.Errno) {
	if len(l) > api.MaxWarnMessages {
		return 0, api.ErrLarge
	}
	return firstBad(l, func(i int, m api.WarnMessage) api.Errno {
		return firstError(
			messageError(m),
			errorIf(i > 0 && m.Warning <= l[i-1].Warning, api.ErrOrder),
		)
	})
}

// Received returns the store that has received a message.
func Received(l []api.WarnMessage, m api.WarnMessage) ([]api.WarnMessage, api.Errno) {
	if e := storeError(l); e != api.OK {
		return nil, e
	}
	return received(l, m)
}

// NewestOf returns the store that has received messages, or the index and the error of the first one that it cannot receive.
func NewestOf(l []api.WarnMessage) ([]api.WarnMessage, int, api.Errno) {
	if len(l) > api.MaxWarnMoves {
		return nil, 0, api.ErrLarge
	}
	return receivedAll(nil, l)
}

// receivedAll returns the valid store l that has received messages one after the other, or the index and the error of the first one that it cannot receive.
func receivedAll(l, messages []api.WarnMessage) ([]api.WarnMessage, int, api.Errno) {
	i, e := firstBad(messages, func(_ int, m api.WarnMessage) api.Errno {
		store, e := received(l, m)
		l = store
		return e
	})
	return l, i, e
}

// received returns, in new memory, the valid store l that has received a message.
func received(l []api.WarnMessage, m api.WarnMessage) ([]api.WarnMessage, api.Errno) {
	if e := messageError(m); e != api.OK {
		return nil, e
	}
	i, known := placeOf(l, m.Warning)
	store := slices.Clone(l)
	switch {
	case !known && len(l) == api.MaxWarnMessages:
		return nil, api.ErrFull
	case !known:
		store = slices.Insert(store, i, m)
	case m.Version == l[i].Version && m.Level != l[i].Level:
		return nil, api.ErrClash
	case m.Version > l[i].Version:
		store[i] = m
	}
	return store, api.OK
}

// placeOf returns the index of the message of a warning in a store and true, or the one that it would have and false.
func placeOf(l []api.WarnMessage, warning string) (int, bool) {
	return slices.BinarySearchFunc(l, warning, func(m api.WarnMessage, warning string) int {
		return strings.Compare(m.Warning, warning)
	})
}

func storeError(l []api.WarnMessage) api.Errno {
	_, e := CheckStore(l)
	return e
}

func messageError(m api.WarnMessage) api.Errno {
	return firstError(
		nameError(m.Warning),
		errorIf(outside(m.Version, 1, api.MaxWarnVersion), api.ErrRange),
		errorIf(outside(m.Level, 0, api.MaxWarnLevels), api.ErrRange),
	)
}
