package warn

import (
	"slices"
	"testing"

	"skywave/api"
)

// hasSubscribed is whether a client has subscribed to a notice, word by word.
func hasSubscribed(c api.WarnClient, n api.WarnNotice) bool {
	kind := len(c.Kinds) == 0
	for _, k := range c.Kinds {
		kind = kind || k == n.Kind
	}
	region := len(c.Regions) == 0
	for _, r := range c.Regions {
		region = region || r == n.Region
	}
	return kind && region
}

// manyNotices returns notices of few kinds and regions.
func manyNotices() []api.WarnNotice {
	l := []api.WarnNotice{notice("storm", "north"), notice("fade", "south")}
	for _, kind := range named(12)[5:] {
		for _, region := range named(12)[6:] {
			l = append(l, notice(kind, region))
		}
	}
	return l
}

// P8.3

func TestCheckClients(t *testing.T) {
	for _, l := range goodClients() {
		i, e := CheckClients(l)
		want(t, "CheckClients", results(i, e), results(0, api.OK))
	}
	for _, name := range goodNames() {
		// The same word may be a name, a kind and a region.
		i, e := CheckClients([]api.WarnClient{client(name, []string{name, "x"}, []string{"x", name}), client("x", nil, nil)})
		want(t, "CheckClients of "+name, results(i, e), results(0, api.OK))
	}
	for _, x := range badClientLists() {
		i, e := CheckClients(x.l)
		if i != x.index || e != x.e {
			t.Errorf("CheckClients of %v: %d, %d, want %d, %d", x.l[:min(len(x.l), 3)], i, e, x.index, x.e)
		}
	}
}

func TestIsFor(t *testing.T) {
	some := client("a", []string{"storm", "fade"}, []string{"north", "south"})
	for _, x := range []struct {
		c  api.WarnClient
		n  api.WarnNotice
		is bool
	}{
		{exampleClients()[0], notice("storm", "north"), true},
		{exampleClients()[0], notice("fade", "north"), false},
		{exampleClients()[0], notice("storm", "storm"), true},
		{exampleClients()[1], notice("storm", "north"), true},
		{exampleClients()[1], notice("x", "y"), true},
		{exampleClients()[2], notice("storm", "south"), true},
		{exampleClients()[2], notice("storm", "north"), false},
		{exampleClients()[2], notice("south", "north"), false},
		{client("c", []string{}, []string{}), notice("x", "y"), true},
		{some, notice("storm", "north"), true},
		{some, notice("storm", "south"), true},
		{some, notice("fade", "north"), true},
		{some, notice("fade", "south"), true},
		{some, notice("fade", "west"), false},
		{some, notice("gap", "south"), false},
		{some, notice("gap", "west"), false},
		{some, notice("north", "storm"), false},
		{some, notice("Storm", "north"), false},
		{some, notice("stor", "north"), false},
		{some, notice("storms", "north"), false},
	} {
		is, e := IsFor(x.c, x.n)
		want(t, "IsFor", results(is, e), results(x.is, api.OK))
	}
	for _, x := range badClients() {
		is, e := IsFor(x.c, notice("a", "b"))
		refused(t, "IsFor", x.e, is, e)
	}
}

func TestReceiversOf(t *testing.T) {
	for _, x := range []struct {
		n     api.WarnNotice
		names []string
	}{
		{notice("storm", "north"), []string{"c", "all"}},
		{notice("storm", "south"), []string{"c", "all", "s"}},
		{notice("fade", "south"), []string{"all", "s"}},
		{notice("fade", "north"), []string{"all"}},
	} {
		names, e := ReceiversOf(exampleClients(), x.n)
		want(t, "ReceiversOf", results(names, e), results(x.names, api.OK))
	}
	names, e := ReceiversOf(nil, notice("a", "b"))
	want(t, "ReceiversOf no clients", results(names, e), results([]string{}, api.OK))
	names, e = ReceiversOf(exampleClients()[:1], notice("fade", "b"))
	want(t, "ReceiversOf a notice for nobody", results(names, e), results([]string{}, api.OK))
}

func TestNoticesFor(t *testing.T) {
	l := []api.WarnNotice{notice("fade", "north"), notice("storm", "south"), notice("storm", "north"), notice("storm", "south")}
	for i, indexes := range [][]int{{1, 2, 3}, {0, 1, 2, 3}, {1, 3}} {
		got, e := NoticesFor(exampleClients()[i], l)
		want(t, "NoticesFor", results(got, e), results(indexes, api.OK))
	}
	got, e := NoticesFor(exampleClients()[1], nil)
	want(t, "NoticesFor no notices", results(got, e), results([]int{}, api.OK))
	got, e = NoticesFor(exampleClients()[1], manyOf(notice("a", "b"), 50))
	want(t, "NoticesFor as many notices as there may be", results(len(got), e), results(50, api.OK))
	for _, x := range badNotices() {
		got, e := NoticesFor(exampleClients()[1], x.l)
		refused(t, "NoticesFor", x.e, got, e)
		if len(x.l) == 1 {
			is, e := IsFor(exampleClients()[1], x.l[0])
			refused(t, "IsFor", x.e, is, e)
			names, e := ReceiversOf(exampleClients(), x.l[0])
			refused(t, "ReceiversOf", x.e, names, e)
			names, e = ReceiversOf(nil, x.l[0])
			refused(t, "ReceiversOf no clients", x.e, names, e)
		}
	}
}

// P8.13

func TestSubscribed(t *testing.T) {
	notices := manyNotices()
	for _, l := range goodClients() {
		for i, n := range notices {
			names, e := ReceiversOf(l, n)
			want(t, "the error of ReceiversOf", e, api.OK)
			var expected []string
			for _, c := range l {
				is, e := IsFor(c, n)
				want(t, "IsFor", results(is, e), results(hasSubscribed(c, n), api.OK))
				indexes, e := NoticesFor(c, notices)
				want(t, "NoticesFor", results(slices.Contains(indexes, i), e), results(is, api.OK))
				want(t, "whether a client is among the receivers", slices.Contains(names, c.Name), is)
				if is {
					expected = append(expected, c.Name)
				}
			}
			want(t, "ReceiversOf", names, expected)
		}
	}
}
