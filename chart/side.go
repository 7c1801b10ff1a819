package chart

import (
	"cmp"

	"skywave/api"
)

// The directions, each of which is a turn to the left of the one before it.
const (
	toRight = iota
	upwards
	toLeft
	downwards
	directions // the number of directions
)

// steps are the steps in all directions.
var steps = [directions]api.ChartPlace{{X: 1}, {Y: 1}, {X: -1}, {Y: -1}}

// leftCells are the cells to the left of steps from 0, 0.
var leftCells = [directions]api.ChartPlace{{}, {X: -1}, {X: -1, Y: -1}, {Y: -1}}

// region is rows of cells, of which those with 1 are in it.
type region [][]int

// side is the place at which a side begins, and its direction.
type side struct {
	from      api.ChartPlace
	direction int
}

func contoursOf(x region) [][]api.ChartPlace {
	sides := x.sides()
	open := map[side]bool{}
	for _, s := range sides {
		open[s] = true
	}
	var contours [][]api.ChartPlace
	for _, s := range sides {
		if open[s] {
			contours = append(contours, x.contour(s, open))
		}
	}
	return contours
}

// sides returns the sides of a region in their order.
func (x region) sides() []side {
	var list []side
	for row := range len(x) + 1 {
		for column := range len(x[0]) + 1 {
			for direction := range directions {
				s := side{api.ChartPlace{X: column, Y: row}, direction}
				if x.has(s) {
					list = append(list, s)
				}
			}
		}
	}
	return list
}

// contour closes open sides, from one of them on as far as they lead.
func (x region) contour(s side, open map[side]bool) []api.ChartPlace {
	var places []api.ChartPlace
	for open[s] {
		delete(open, s)
		places = append(places, s.from)
		s = x.next(s)
	}
	return places
}

// next returns the side with which a contour goes on. It need not be open: a contour ends where its first side follows, even if another side begins there.
func (x region) next(s side) side {
	straight := side{plus(s.from, steps[s.direction]), s.direction}
	switch {
	case x.has(straight.turned(1)):
		return straight.turned(1)
	case x.has(straight):
		return straight
	}
	return straight.turned(3)
}

// has tells whether a side has a cell of the region to its left, and none to its right.
func (x region) has(s side) bool {
	// The right cell of a side is the left one of the side that turns to the right from its beginning.
	return x.contains(s.leftCell()) && !x.contains(s.turned(3).leftCell())
}

func (x region) contains(cell api.ChartPlace) bool {
	isInside := !outside(cell.Y, 0, len(x)-1) && !outside(cell.X, 0, len(x[0])-1)
	return isInside && x[cell.Y][cell.X] == 1
}

func (s side) leftCell() api.ChartPlace {
	return plus(s.from, leftCells[s.direction])
}

// turned returns the side from the same place that is turned to the left by quarters of a turn.
func (s side) turned(quarters int) side {
	return side{s.from, (s.direction + quarters) % directions}
}

func plus(a, b api.ChartPlace) api.ChartPlace {
	return api.ChartPlace{X: a.X + b.X, Y: a.Y + b.Y}
}

// directionOf returns the direction of the step from a place to another one, or the number of directions if it is no step.
func directionOf(from, to api.ChartPlace) int {
	for direction, step := range steps {
		if isStep(from.X, to.X, step.X) && isStep(from.Y, to.Y, step.Y) {
			return direction
		}
	}
	return directions
}

// isStep tells whether a coordinate becomes another one by a step. Where the sum wraps around, the order of both tells that it does not.
func isStep(from, to, step int) bool {
	return from+step == to && cmp.Compare(to, from) == step
}
