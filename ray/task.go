package ray

import (
	"slices"

	"skywave/api"
)

// AnswersFor returns the answers for all launches of a task's grid.
func AnswersFor(s api.RaySky, t api.RayTask, frequency int) ([]int, api.Errno) {
	e := firstError(skyError(s), taskError(t), frequencyError(frequency))
	if e != api.OK {
		return nil, e
	}
	return answersFor(s, t, frequency), api.OK
}

// UsableFor returns the usable frequencies of a task.
func UsableFor(s api.RaySky, t api.RayTask) (api.RayUsable, api.Errno) {
	if e := firstError(skyError(s), taskError(t)); e != api.OK {
		return api.RayUsable{}, e
	}
	u := usableFor(s, t)
	return u, errorIf(u.Perhaps == 0, api.ErrNone)
}

// CheckUsable accepts the usable frequencies of a task.
func CheckUsable(s api.RaySky, t api.RayTask, u api.RayUsable) api.Errno {
	if e := firstError(skyError(s), taskError(t)); e != api.OK {
		return e
	}
	isTried := func(frequency int) bool { return slices.Contains(t.Frequencies, frequency) }
	e := firstError(
		errorIf(!isTried(u.Perhaps) || u.Sure != 0 && !isTried(u.Sure), api.ErrMissing),
		errorIf(u.Sure > u.Perhaps, api.ErrOrder),
		errorIf(!isLaunch(t.Grid, u.Launch), api.ErrShape),
	)
	if e != api.OK {
		return e
	}
	return errorIf(u != usableFor(s, t), api.ErrProof)
}

// HopsFor returns the minimum number of hops with which some launch lands surely in a task's target, and the first such launch.
func HopsFor(s api.RaySky, t api.RayTask, frequency int) (api.RayHop, api.Errno) {
	e := firstError(skyError(s), taskError(t), frequencyError(frequency))
	if e != api.OK {
		return api.RayHop{}, e
	}
	for hops := 1; hops <= api.MaxRayHops; hops++ {
		for k, x := range shotsOf(s, frequency, t.Grid) {
			if !x.escapes() && liesIn(times(x.ground(), hops), t.Target) {
				return api.RayHop{Hops: hops, Launch: k}, api.OK
			}
		}
	}
	return api.RayHop{}, api.ErrNone
}

// usableFor returns the usable frequencies of a valid task, or the zero value if there are none.
func usableFor(s api.RaySky, t api.RayTask) api.RayUsable {
	var u api.RayUsable
	for _, frequency := range t.Frequencies {
		answers := answersFor(s, t, frequency)
		if launch := slices.Index(answers, api.AnswerYes); launch >= 0 {
			u.Sure, u.Launch = frequency, launch
		}
		if slices.Max(answers) > api.AnswerNo {
			u.Perhaps = frequency
		}
	}
	return u
}

func answersFor(s api.RaySky, t api.RayTask, frequency int) []int {
	answers := make([]int, t.Grid)
	for k, x := range shotsOf(s, frequency, t.Grid) {
		answers[k] = x.answerFor(t.Target)
	}
	return answers
}

// answerFor returns whether the ray reaches a target.
func (x shot) answerFor(target api.Range) int {
	if x.escapes() {
		return api.AnswerNo
	}
	ground := x.ground()
	switch {
	case ground.Hi < target.Lo || ground.Lo > target.Hi:
		return api.AnswerNo
	case liesIn(ground, target):
		return api.AnswerYes
	}
	return api.AnswerMaybe
}

func liesIn(inner, outer api.Range) bool {
	return inner.Lo >= outer.Lo && inner.Hi <= outer.Hi
}

func taskError(t api.RayTask) api.Errno {
	_, frequenciesError := firstBad(t.Frequencies, func(i, frequency int) api.Errno {
		return firstError(
			frequencyError(frequency),
			errorIf(i > 0 && frequency <= t.Frequencies[i-1], api.ErrOrder),
		)
	})
	return firstError(
		gridError(t.Grid),
		errorIf(outside(t.Target.Lo, 0, api.MaxRayDistance) || outside(t.Target.Hi, 0, api.MaxRayDistance), api.ErrRange),
		errorIf(t.Target.Lo > t.Target.Hi, api.ErrOrder),
		errorIf(len(t.Frequencies) == 0, api.ErrShape),
		errorIf(len(t.Frequencies) > api.MaxRayTries, api.ErrLarge),
		frequenciesError,
	)
}
