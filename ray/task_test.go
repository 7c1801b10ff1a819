package ray

import (
	"math"
	"slices"
	"testing"

	"skywave/api"
)

// taskFor returns a task.
func taskFor(grid, lo, hi int, frequencies ...int) api.RayTask {
	return api.RayTask{Grid: grid, Target: rangeOf(lo, hi), Frequencies: frequencies}
}

// exampleTask is the task of the chapter's seventh example.
func exampleTask() api.RayTask { return taskFor(4, 19000, 21000, 900, 1000, 1272, 1273) }

// P5.4

func TestAnswersFor(t *testing.T) {
	const no, maybe, yes = api.AnswerNo, api.AnswerMaybe, api.AnswerYes
	for _, x := range []struct {
		t         api.RayTask
		frequency int
		answers   []int
	}{
		{exampleTask(), 900, []int{no, no, yes, no}},
		{exampleTask(), 1000, []int{no, no, yes, no}},
		{exampleTask(), 1272, []int{no, no, yes, no}},
		{exampleTask(), 1273, []int{no, no, no, no}},
		{exampleTask(), 1, []int{no, no, yes, no}},
		{exampleTask(), 3000, []int{no, no, no, no}},
		{taskFor(4, 0, 2000000, 1), 900, []int{yes, yes, yes, yes}},
		{taskFor(4, 0, 2000000, 1), 901, []int{no, yes, yes, yes}},
		{taskFor(4, 0, 0, 1), 900, []int{yes, no, no, no}},
		{taskFor(4, 0, 0, 1), 901, []int{no, no, no, no}},
		{taskFor(1, 0, 0, 1), 900, []int{yes}},
		{taskFor(4, 1, 2, 1), 900, []int{no, no, no, no}},
		// The launch 1/4 lands at 11546 to 11548, 1/2 at 20000, 3/4 at 34640 to 34642.
		{taskFor(4, 11546, 11548, 1), 1000, []int{no, yes, no, no}},
		{taskFor(4, 11546, 11547, 1), 1000, []int{no, maybe, no, no}},
		{taskFor(4, 11547, 11548, 1), 1000, []int{no, maybe, no, no}},
		{taskFor(4, 11547, 11547, 1), 1000, []int{no, maybe, no, no}},
		{taskFor(4, 11546, 11546, 1), 1000, []int{no, maybe, no, no}},
		{taskFor(4, 11548, 11548, 1), 1000, []int{no, maybe, no, no}},
		{taskFor(4, 0, 11545, 1), 1000, []int{no, no, no, no}},
		{taskFor(4, 0, 11546, 1), 1000, []int{no, maybe, no, no}},
		{taskFor(4, 0, 11547, 1), 1000, []int{no, maybe, no, no}},
		{taskFor(4, 0, 11548, 1), 1000, []int{no, yes, no, no}},
		{taskFor(4, 11549, 2000000, 1), 1000, []int{no, no, yes, yes}},
		{taskFor(4, 11548, 2000000, 1), 1000, []int{no, maybe, yes, yes}},
		{taskFor(4, 20000, 34641, 1), 1000, []int{no, no, yes, maybe}},
		{taskFor(4, 20000, 20000, 1), 1000, []int{no, no, yes, no}},
		{taskFor(4, 20001, 34639, 1), 1000, []int{no, no, no, no}},
		{taskFor(4, 0, 19999, 1), 1000, []int{no, yes, no, no}},
	} {
		answers, e := AnswersFor(simpleSky(), x.t, x.frequency)
		want(t, "AnswersFor", results(x.t.Target, x.frequency, answers, e), results(x.t.Target, x.frequency, x.answers, api.OK))
	}
}

func TestUsableFor(t *testing.T) {
	usable := func(sure, launch, perhaps int) api.RayUsable {
		return api.RayUsable{Sure: sure, Launch: launch, Perhaps: perhaps}
	}
	for _, x := range []struct {
		t api.RayTask
		u api.RayUsable
	}{
		{exampleTask(), usable(1272, 2, 1272)},
		{taskFor(4, 19000, 21000, 1273, 3000), api.RayUsable{}},
		{taskFor(4, 1, 2, 1, 900), api.RayUsable{}},
		{taskFor(4, 19000, 21000, 1), usable(1, 2, 1)},
		{taskFor(4, 19000, 21000, 1000, 3000), usable(1000, 2, 1000)},
		{taskFor(4, 11547, 12000, 900, 1000), usable(0, 0, 1000)},
		{taskFor(4, 11547, 20000, 1000, 1272, 1273), usable(1272, 2, 1272)},
		{taskFor(4, 20000, 34641, 1000, 1273), usable(1000, 2, 1273)},
		{taskFor(4, 20000, 34641, 1000, 1800, 1801), usable(1000, 2, 1800)},
		{taskFor(4, 20000, 34642, 1000, 1273), usable(1273, 3, 1273)},
		{taskFor(4, 0, 40000, 900, 1000), usable(1000, 1, 1000)},
		{taskFor(4, 0, 40000, 900), usable(900, 0, 900)},
		{taskFor(1, 0, 0, 1, 900, 901), usable(900, 0, 900)},
		{taskFor(100, 0, 2000000, 1, 2, 3000), usable(3000, 91, 3000)},
	} {
		u, e := UsableFor(simpleSky(), x.t)
		if x.u.Perhaps == 0 {
			refused(t, "UsableFor", api.ErrNone, u, e)
			continue
		}
		want(t, "UsableFor", results(x.t, u, e), results(x.t, x.u, api.OK))
		want(t, "CheckUsable", CheckUsable(simpleSky(), x.t, x.u), api.OK)
	}
}

func TestCheckUsable(t *testing.T) {
	none := taskFor(4, 1, 2, 900, 1000)
	maybe := taskFor(4, 20000, 34641, 1000, 1800)
	unsure := taskFor(4, 11547, 12000, 900, 1000)
	for _, x := range []struct {
		t                     api.RayTask
		sure, launch, perhaps int
		e                     api.Errno
	}{
		{exampleTask(), 1272, 2, 1272, api.OK},
		{exampleTask(), 1272, 1, 1272, api.ErrProof},
		{exampleTask(), 1272, 0, 1272, api.ErrProof},
		{exampleTask(), 1000, 2, 1272, api.ErrProof},
		{exampleTask(), 1272, 2, 1273, api.ErrProof},
		{exampleTask(), 1000, 2, 1000, api.ErrProof},
		{exampleTask(), 0, 0, 1272, api.ErrProof},
		{exampleTask(), 0, 2, 1272, api.ErrProof},
		{exampleTask(), 1000, 2, 1001, api.ErrMissing},
		{exampleTask(), 1001, 2, 1272, api.ErrMissing},
		{exampleTask(), -1272, 2, 1272, api.ErrMissing},
		{exampleTask(), 1272, 2, 0, api.ErrMissing},
		{exampleTask(), 0, 0, 0, api.ErrMissing},
		{exampleTask(), 1001, -1, 1000, api.ErrMissing},
		{exampleTask(), 1273, 4, 1001, api.ErrMissing},
		{exampleTask(), 1272, 2, 1000, api.ErrOrder},
		{exampleTask(), 1273, 4, 1272, api.ErrOrder},
		{exampleTask(), 1272, 4, 1272, api.ErrShape},
		{exampleTask(), 1272, -1, 1272, api.ErrShape},
		{exampleTask(), 1000, 4, 1273, api.ErrShape},
		{exampleTask(), 0, 4, 1273, api.ErrShape},
		{none, 0, 0, 0, api.ErrMissing},
		{none, 0, 0, 900, api.ErrProof},
		{none, 900, 0, 1000, api.ErrProof},
		{none, 1000, 4, 900, api.ErrOrder},
		{maybe, 1000, 2, 1800, api.OK},
		{maybe, 1000, 2, 1000, api.ErrProof},
		{maybe, 1800, 3, 1800, api.ErrProof},
		{unsure, 0, 0, 1000, api.OK},
		{unsure, 0, 1, 1000, api.ErrProof},
		{unsure, 0, 0, 900, api.ErrProof},
		{unsure, 0, 4, 1000, api.ErrShape},
		{unsure, 1000, 1, 1000, api.ErrProof},
	} {
		e := CheckUsable(simpleSky(), x.t, api.RayUsable{Sure: x.sure, Launch: x.launch, Perhaps: x.perhaps})
		want(t, "CheckUsable", results(x.sure, x.launch, x.perhaps, e), results(x.sure, x.launch, x.perhaps, x.e))
	}
	for _, n := range outsideOf(0, 3) {
		want(t, "CheckUsable", CheckUsable(simpleSky(), exampleTask(), api.RayUsable{Sure: 1272, Launch: n, Perhaps: 1272}), api.ErrShape)
		want(t, "CheckUsable", CheckUsable(simpleSky(), exampleTask(), api.RayUsable{Sure: n, Launch: n, Perhaps: 1272}), api.ErrMissing)
		want(t, "CheckUsable", CheckUsable(simpleSky(), exampleTask(), api.RayUsable{Launch: n, Perhaps: n}), api.ErrMissing)
	}
}

func TestHopsFor(t *testing.T) {
	for _, x := range []struct {
		t            api.RayTask
		frequency    int
		hops, launch int
	}{
		{taskFor(4, 40000, 41000, 900), 1000, 2, 2},
		{taskFor(4, 19000, 21000, 900), 1000, 1, 2},
		{taskFor(4, 0, 0, 1), 900, 1, 0},
		{taskFor(1, 0, 2000000, 1), 900, 1, 0},
		{taskFor(4, 120000, 120000, 1), 1000, 6, 2},
		{taskFor(4, 140000, 140000, 1), 1000, 0, 0},
		{taskFor(4, 120001, 140000, 1), 1000, 4, 3},
		{taskFor(4, 120001, 140000, 1), 1801, 0, 0},
		{taskFor(4, 120001, 138559, 1), 1000, 0, 0},
		{taskFor(4, 23092, 23096, 1), 1000, 2, 1},
		{taskFor(4, 23093, 23096, 1), 1000, 0, 0},
		{taskFor(4, 23092, 23095, 1), 1000, 0, 0},
		{taskFor(4, 69280, 69284, 1), 1000, 2, 3},
		{taskFor(4, 69276, 69287, 1), 1000, 2, 3}, // 69280 to 69284
		{taskFor(4, 11546, 11548, 1), 1000, 1, 1},
		{taskFor(4, 11547, 11548, 1), 1000, 0, 0},
		{taskFor(4, 0, 2000000, 1), 1000, 1, 1},
		{taskFor(4, 12000, 60000, 1), 1000, 1, 2},
		{taskFor(4, 35000, 80000, 1), 1000, 2, 2},
		{taskFor(4, 35000, 39999, 1), 1000, 0, 0},
		{taskFor(4, 50000, 60000, 1), 1000, 3, 2},
		{taskFor(4, 1, 2, 1), 1000, 0, 0},
	} {
		hop, e := HopsFor(simpleSky(), x.t, x.frequency)
		if x.hops == 0 {
			refused(t, "HopsFor", api.ErrNone, hop, e)
			continue
		}
		want(t, "HopsFor", results(x.t.Target, hop, e), results(x.t.Target, api.RayHop{Hops: x.hops, Launch: x.launch}, api.OK))
	}
}

// irregularTask returns a task, of which the target is often near what a sky's rays reach.
func irregularTask(s api.RaySky, seed int) api.RayTask {
	next := numbers(seed + 400)
	critical, _ := CriticalOf(s)
	x := taskFor(1+next([]int{4, 30, 100}[seed%3]), 0, 0)
	for f := 1 + next(1+critical); f <= 3000 && len(x.Frequencies) < 8; f += 1 + next(1+critical/6) {
		x.Frequencies = append(x.Frequencies, f)
	}
	lo := next(200000)
	for range 20 {
		launch, _ := LaunchOf(x.Grid, next(x.Grid))
		ground, e := GroundOf(s, x.Frequencies[next(len(x.Frequencies))], launch)
		if e == api.OK && ground.Hi < 1900000 {
			lo = ground.Lo
			break
		}
	}
	if seed%4 == 0 {
		lo *= 1 + next(6)
	}
	lo = min(2000000, max(0, lo+next(9)-5))
	x.Target = rangeOf(lo, min(2000000, lo+next([]int{20, 20, 60, 4000, 80000}[seed%5])))
	return x
}

// answersByDefinition counts the numbers that a ground distance and a target have in common.
func answersByDefinition(s api.RaySky, x api.RayTask, f int) []int {
	answers := make([]int, x.Grid)
	for k := range answers {
		launch, _ := LaunchOf(x.Grid, k)
		ground, e := GroundOf(s, f, launch)
		common := 0
		for n := ground.Lo; n <= ground.Hi && e == api.OK; n++ {
			if n >= x.Target.Lo && n <= x.Target.Hi {
				common++
			}
		}
		if common == ground.Hi-ground.Lo+1 {
			answers[k] = api.AnswerYes
		} else if common > 0 {
			answers[k] = api.AnswerMaybe
		}
	}
	return answers
}

func usableByDefinition(s api.RaySky, x api.RayTask) api.RayUsable {
	var u api.RayUsable
	for _, f := range slices.Backward(x.Frequencies) {
		answers := answersByDefinition(s, x, f)
		if slices.Contains(answers, api.AnswerYes) && u.Sure == 0 {
			u.Sure, u.Launch = f, slices.Index(answers, api.AnswerYes)
		}
		if slices.Max(answers) != api.AnswerNo && u.Perhaps == 0 {
			u.Perhaps = f
		}
	}
	return u
}

// P5.11, and by the definitions.
func TestTasksByDefinition(t *testing.T) {
	counts := map[string]int{}
	for seed, s := range goodSkies() {
		for i := range 5 {
			x := irregularTask(s, 5*seed+i)
			for _, f := range append([]int{1, 3000}, x.Frequencies...) {
				answers, e := AnswersFor(s, x, f)
				want(t, "AnswersFor "+FormatSky(s), results(x, answers, e), results(x, answersByDefinition(s, x, f), api.OK))
			}
			expected := usableByDefinition(s, x)
			u, e := UsableFor(s, x)
			if expected.Perhaps == 0 {
				counts["none"]++
				refused(t, "UsableFor", api.ErrNone, u, e)
				continue
			}
			want(t, "UsableFor "+FormatSky(s), results(x, u, e), results(x, expected, api.OK))
			if u.Sure == 0 {
				counts["unsure"]++
			} else if u.Sure < u.Perhaps {
				counts["between"]++
			}
			if i == 0 {
				checkOthers(t, s, x, u)
			}
			checkWider(t, s, x, u)
		}
	}
	if counts["none"] < 50 || counts["unsure"] < 20 || counts["between"] < 5 {
		t.Error("tasks:", counts)
	}
}

// checkOthers checks that CheckUsable accepts the usable frequencies and no other ones.
func checkOthers(t *testing.T, s api.RaySky, x api.RayTask, u api.RayUsable) {
	t.Helper()
	list := append([]int{0, u.Sure + 1, u.Perhaps + 1, -1, math.MaxInt}, x.Frequencies...)
	for _, sure := range list {
		for _, perhaps := range list {
			for _, launch := range []int{-1, 0, u.Launch - 1, u.Launch, u.Launch + 1, x.Grid - 1, x.Grid} {
				expected := api.OK
				switch {
				case !slices.Contains(x.Frequencies, perhaps) || sure != 0 && !slices.Contains(x.Frequencies, sure):
					expected = api.ErrMissing
				case sure > perhaps:
					expected = api.ErrOrder
				case launch < 0 || launch >= x.Grid:
					expected = api.ErrShape
				case sure != u.Sure || launch != u.Launch || perhaps != u.Perhaps:
					expected = api.ErrProof
				}
				other := api.RayUsable{Sure: sure, Launch: launch, Perhaps: perhaps}
				want(t, "CheckUsable", results(other, CheckUsable(s, x, other)), results(other, expected))
			}
		}
	}
}

// checkWider checks that with a wider target no usable frequency becomes less.
func checkWider(t *testing.T, s api.RaySky, x api.RayTask, u api.RayUsable) {
	t.Helper()
	for _, n := range []int{1, 2, 10, 1000, 2000000} {
		x.Target = rangeOf(max(0, x.Target.Lo-n), min(2000000, x.Target.Hi+n))
		wider, e := UsableFor(s, x)
		if e != api.OK || wider.Sure < u.Sure || wider.Perhaps < u.Perhaps {
			t.Errorf("UsableFor %v in %s: %v, %d", x, FormatSky(s), wider, e)
		}
		u = wider
	}
}

func TestHopsForByDefinition(t *testing.T) {
	counts := map[int]int{}
	for seed, s := range goodSkies() {
		for i := range 6 {
			x := irregularTask(s, 6*seed+i)
			f := x.Frequencies[i%len(x.Frequencies)]
			var expected api.RayHop
			for k := x.Grid - 1; k >= 0; k-- {
				launch, _ := LaunchOf(x.Grid, k)
				ground, e := GroundOf(s, f, launch)
				for h := 6; h >= 1 && e == api.OK; h-- {
					lands := h*ground.Lo >= x.Target.Lo && h*ground.Hi <= x.Target.Hi
					if lands && (expected.Hops == 0 || h <= expected.Hops) {
						expected = api.RayHop{Hops: h, Launch: k}
					}
				}
			}
			counts[expected.Hops]++
			hop, e := HopsFor(s, x, f)
			if expected.Hops == 0 {
				refused(t, "HopsFor", api.ErrNone, hop, e)
				continue
			}
			want(t, "HopsFor "+FormatSky(s), results(x, f, hop, e), results(x, f, expected, api.OK))
		}
	}
	for hops := range 7 {
		if counts[hops] < 4 {
			t.Error("hops:", counts)
		}
	}
}
