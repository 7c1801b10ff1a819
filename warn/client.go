package warn

import (
	"slices"

	"skywave/api"
)

// CheckClients returns the error of clients, and the index of the client.
func CheckClients(l []api.WarnClient) (int, api.Errno) {
	if len(l) > api.MaxWarnClients {
		return 0, api.ErrLarge
	}
	seen := map[string]bool{}
	return firstBad(l, func(_ int, c api.WarnClient) api.Errno {
		e := firstError(clientError(c), errorIf(seen[c.Name], api.ErrExists))
		seen[c.Name] = true
		return e
	})
}

// IsFor tells whether a client has subscribed to a notice.
func IsFor(c api.WarnClient, n api.WarnNotice) (bool, api.Errno) {
	if e := firstError(clientError(c), noticeError(n)); e != api.OK {
		return false, e
	}
	return isFor(c, n), api.OK
}

// ReceiversOf returns the names of all clients that have subscribed to a notice.
func ReceiversOf(l []api.WarnClient, n api.WarnNotice) ([]string, api.Errno) {
	_, e := CheckClients(l)
	if e = firstError(e, noticeError(n)); e != api.OK {
		return nil, e
	}
	var names []string
	for _, c := range l {
		if isFor(c, n) {
			names = append(names, c.Name)
		}
	}
	return names, api.OK
}

// NoticesFor returns the indexes of all notices to which a client has subscribed.
func NoticesFor(c api.WarnClient, l []api.WarnNotice) ([]int, api.Errno) {
	if e := firstError(clientError(c), noticesError(l)); e != api.OK {
		return nil, e
	}
	var indexes []int
	for i, n := range l {
		if isFor(c, n) {
			indexes = append(indexes, i)
		}
	}
	return indexes, api.OK
}

// topicsOf returns the kinds and the regions of a client.
func topicsOf(c api.WarnClient) [2][]string {
	return [2][]string{c.Kinds, c.Regions}
}

func isFor(c api.WarnClient, n api.WarnNotice) bool {
	about := [2]string{n.Kind, n.Region}
	for i, topics := range topicsOf(c) {
		if len(topics) > 0 && !slices.Contains(topics, about[i]) {
			return false
		}
	}
	return true
}

func clientError(c api.WarnClient) api.Errno {
	topics := topicsOf(c)
	isLarge := func(names []string) bool { return len(names) > api.MaxWarnTopics }
	return firstError(
		nameError(c.Name),
		errorIf(slices.ContainsFunc(topics[:], isLarge), api.ErrLarge),
		topicsError(topics[0]),
		topicsError(topics[1]),
	)
}

// topicsError returns the error of kinds, or of regions.
func topicsError(names []string) api.Errno {
	seen := map[string]bool{}
	_, e := firstBad(names, func(_ int, name string) api.Errno {
		e := firstError(nameError(name), errorIf(seen[name], api.ErrDouble))
		seen[name] = true
		return e
	})
	return e
}

func noticeError(n api.WarnNotice) api.Errno {
	return firstError(nameError(n.Kind), nameError(n.Region))
}

func noticesError(l []api.WarnNotice) api.Errno {
	_, e := firstBad(l, func(_ int, n api.WarnNotice) api.Errno { return noticeError(n) })
	return firstError(errorIf(len(l) > api.MaxWarnNotices, api.ErrLarge), e)
}
