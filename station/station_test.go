package station

import (
	"math"
	"slices"
	"testing"

	"skywave/api"
)

// P9.6

func TestCheckNet(t *testing.T) {
	for _, n := range goodNets() {
		i, e := CheckNet(n)
		want(t, "CheckNet", results(i, e), results(0, api.OK))
	}
	for _, x := range badNets() {
		i, e := CheckNet(x.n)
		if i != x.index || e != x.e {
			t.Errorf("CheckNet of %d, %v: %d, %d, want %d, %d", x.n.Stations, x.n.Pairs[:min(len(x.n.Pairs), 30)], i, e, x.index, x.e)
		}
	}
}

func TestCheckPlan(t *testing.T) {
	chord := net(4, append(ring().Pairs, [2]int{0, 2})...)
	for _, x := range []struct {
		n     api.StationNet
		slots []int
		index int
		e     api.Errno
	}{
		{ring(), []int{0, 1, 0, 1}, 0, api.OK},
		{ring(), []int{7, 0, 7, 3}, 0, api.OK}, // not the fewest slots, and with gaps
		{chord, []int{0, 1, 2, 1}, 0, api.OK},
		{chord, []int{0, 1, 0, 1}, 4, api.ErrClash},
		{ring(), []int{0, 0, 0, 0}, 0, api.ErrClash},
		{ring(), []int{0, 1, 1, 0}, 1, api.ErrClash},
		{ring(), []int{0, 1, 2, 2}, 2, api.ErrClash},
		{ring(), []int{0, 1, 2, 0}, 3, api.ErrClash},
		{ring(), nil, 0, api.ErrShape},
		{ring(), []int{0, 1, 0}, 0, api.ErrShape},
		{ring(), []int{0, 1, 0, 1, 0}, 0, api.ErrShape},
		{ring(), []int{-1, 8, 9}, 0, api.ErrShape},
		{ring(), make([]int, 60000), 0, api.ErrShape},
		{net(1), []int{7}, 0, api.OK},
		{net(1), []int{8}, 0, api.ErrRange},
		{net(8), make([]int, 8), 0, api.OK},
		{net(8, pairsOf(8)...), []int{7, 6, 5, 4, 3, 2, 1, 0}, 0, api.OK},
		{net(8, pairsOf(8)...), []int{7, 6, 5, 4, 3, 2, 1, 1}, 27, api.ErrClash},
	} {
		i, e := CheckPlan(x.n, x.slots)
		want(t, "CheckPlan", results(i, e), results(x.index, x.e))
	}
	for _, n := range outsideOf(0, 7) {
		for station := range 4 {
			slots := []int{0, 0, 0, 0} // what clashes comes later
			slots[station] = n
			i, e := CheckPlan(ring(), slots)
			want(t, "CheckPlan of a slot", results(i, e), results(station, api.ErrRange))
			slots[3] = -1
			i, e = CheckPlan(ring(), slots)
			want(t, "CheckPlan of two slots", results(i, e), results(station, api.ErrRange))
		}
	}
	// An error of the net has the index 0.
	for _, x := range badNets() {
		for _, slots := range [][]int{nil, {0, 1, 0, 1}, make([]int, min(max(x.n.Stations, 0), 8)), {-1}} {
			i, e := CheckPlan(x.n, slots)
			want(t, "CheckPlan of a net", results(i, e), results(0, x.e))
		}
	}
}

// isRight tells whether no two stations that disturb each other have the same slot.
func isRight(n api.StationNet, slots []int) bool {
	for _, pair := range n.Pairs {
		if slots[pair[0]] == slots[pair[1]] {
			return false
		}
	}
	return true
}

// planByDefinition goes through all plans with one slot, then with two, and so on, in lexicographic order.
func planByDefinition(n api.StationNet) ([]int, int) {
	for count := 1; ; count++ {
		slots := make([]int, n.Stations)
		for {
			if isRight(n, slots) {
				return slots, count
			}
			station := n.Stations - 1
			for station >= 0 && slots[station] == count-1 {
				slots[station] = 0
				station--
			}
			if station < 0 {
				break
			}
			slots[station]++
		}
	}
}

// groupByDefinition goes through all sets of stations.
func groupByDefinition(n api.StationNet) []int {
	var best []int
	for bits := range 1 << n.Stations {
		var group []int
		for station := range n.Stations {
			if bits>>station&1 == 1 {
				group = append(group, station)
			}
		}
		isGroup := true
		for i, first := range group {
			for _, second := range group[i+1:] {
				isGroup = isGroup && slices.Contains(n.Pairs, [2]int{first, second})
			}
		}
		if isGroup && (len(group) > len(best) || len(group) == len(best) && slices.Compare(group, best) < 0) {
			best = group
		}
	}
	return best
}

func TestPlanFor(t *testing.T) {
	chord := net(4, append(ring().Pairs, [2]int{0, 2})...)
	for _, x := range []struct {
		n     api.StationNet
		slots []int
		count int
		group []int
	}{
		{ring(), []int{0, 1, 0, 1}, 2, []int{0, 1}},
		{chord, []int{0, 1, 2, 1}, 3, []int{0, 1, 2}},
		{net(1), []int{0}, 1, []int{0}},
		{net(4), []int{0, 0, 0, 0}, 1, []int{0}},
		{net(8), []int{0, 0, 0, 0, 0, 0, 0, 0}, 1, []int{0}},
		{net(8, pairsOf(8)...), []int{0, 1, 2, 3, 4, 5, 6, 7}, 8, []int{0, 1, 2, 3, 4, 5, 6, 7}},
		{net(3, [2]int{1, 2}), []int{0, 0, 1}, 2, []int{1, 2}},
		{net(4, [2]int{2, 3}, [2]int{0, 1}), []int{0, 1, 0, 1}, 2, []int{0, 1}},
		{net(5, [2]int{0, 1}, [2]int{1, 2}, [2]int{2, 3}, [2]int{3, 4}, [2]int{0, 4}), []int{0, 1, 0, 1, 2}, 3, []int{0, 1}},
		// With the slot 0 for both 0 and 1 there would be three slots.
		{net(4, [2]int{0, 3}, [2]int{1, 2}, [2]int{2, 3}), []int{0, 1, 0, 1}, 2, []int{0, 3}},
	} {
		slots, count, e := PlanFor(x.n)
		want(t, "PlanFor", results(slots, count, e), results(x.slots, x.count, api.OK))
		group, e := GroupOf(x.n)
		want(t, "GroupOf", results(group, e), results(x.group, api.OK))
	}
}

// P9.6 and P9.13

func TestPlansByDefinition(t *testing.T) {
	for _, n := range goodNets() {
		slots, count, e := PlanFor(n)
		expected, least := slots, count
		// All plans with up to five slots are few enough to go through them.
		if count <= 5 {
			expected, least = planByDefinition(n)
		}
		want(t, "PlanFor", results(slots, count, e), results(expected, least, api.OK))
		group, e := GroupOf(n)
		want(t, "GroupOf", results(group, e), results(groupByDefinition(n), api.OK))
		if count < len(group) {
			t.Errorf("PlanFor %v: %d slots, but %v disturb each other", n, count, group)
		}
		i, e := CheckPlan(n, slots)
		want(t, "CheckPlan of PlanFor", results(i, e), results(0, api.OK))
		for slot := range count {
			want(t, "whether there is no gap", slices.Contains(slots, slot), true)
		}
		want(t, "the greatest slot", slices.Max(slots), count-1)
	}
}

func TestCheckPlanByDefinition(t *testing.T) {
	for seed, n := range goodNets() {
		next := numbers(seed)
		slots := make([]int, n.Stations)
		for station := range slots {
			slots[station] = next(8)
		}
		i, e := CheckPlan(n, slots)
		if isRight(n, slots) {
			want(t, "CheckPlan", results(i, e), results(0, api.OK))
			continue
		}
		pair := n.Pairs[i]
		want(t, "CheckPlan", results(slots[pair[0]], e), results(slots[pair[1]], api.ErrClash))
		want(t, "whether the pairs before are right", isRight(net(n.Stations, n.Pairs[:i]...), slots), true)
	}
}

// The order of the pairs does not matter for a plan and for a group.
func TestPairsInAnyOrder(t *testing.T) {
	for _, n := range goodNets() {
		other := net(n.Stations, n.Pairs...)
		other.Pairs = slices.Clone(other.Pairs)
		slices.Reverse(other.Pairs)
		slots, count, _ := PlanFor(n)
		again, same, _ := PlanFor(other)
		want(t, "PlanFor", results(again, same), results(slots, count))
		group, _ := GroupOf(n)
		another, _ := GroupOf(other)
		want(t, "GroupOf", another, group)
	}
}

func TestNetsRefused(t *testing.T) {
	for _, x := range badNets() {
		slots, count, e := PlanFor(x.n)
		refused(t, "PlanFor", x.e, slots, count, e)
		group, e := GroupOf(x.n)
		refused(t, "GroupOf", x.e, group, e)
	}
	slots, count, e := PlanFor(net(math.MaxInt))
	refused(t, "PlanFor", api.ErrRange, slots, count, e)
}
