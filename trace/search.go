package trace

import (
	"iter"
	"slices"

	"skywave/api"
)

// CheckRules returns the error of rules.
func CheckRules(g api.TraceGram, r api.TraceRules) api.Errno {
	return firstError(
		gramError(g),
		tagError(r.Tag),
		errorIf(outside(r.Miss, 0, api.MaxTracePrice) || outside(r.Jump, 0, api.MaxTracePrice), api.ErrRange),
		errorIf(outside(r.Limit, 0, api.MaxTraceRows), api.ErrRange),
		errorIf(!hasColumn(g, r.From) || !hasColumn(g, r.To), api.ErrMissing),
		errorIf(r.From > r.To, api.ErrOrder),
	)
}

// CostOf returns the cost of a trace that fits the rules.
func CostOf(g api.TraceGram, r api.TraceRules, p api.TracePath) (int, api.Errno) {
	s, e := searchOf(g, r)
	if e = firstError(e, pathError(g, p)); e != api.OK {
		return 0, e
	}
	if !s.fits(p) {
		return 0, api.ErrRefused
	}
	return s.cost(p), api.OK
}

// Cheapest returns the cheapest trace, and its cost.
func Cheapest(g api.TraceGram, r api.TraceRules) (api.TracePath, int, api.Errno) {
	s, e := searchOf(g, r)
	if e != api.OK {
		return api.TracePath{}, 0, e
	}
	p, cost := s.cheapest()
	return p, cost, api.OK
}

// PotentialsOf returns potentials that prove the cost of the cheapest trace: what the rest of a trace costs at least.
func PotentialsOf(g api.TraceGram, r api.TraceRules) ([][]int, api.Errno) {
	s, e := searchOf(g, r)
	if e != api.OK {
		return nil, e
	}
	return s.remaining(), api.OK
}

// CheckBound returns the bound of valid potentials.
func CheckBound(g api.TraceGram, r api.TraceRules, potentials [][]int) (int, api.Errno) {
	s, e := searchOf(g, r)
	if e != api.OK {
		return 0, e
	}
	if e = s.potentialsError(potentials); e != api.OK {
		return 0, e
	}
	if !s.valid(potentials) {
		return 0, api.ErrProof
	}
	return slices.Min(potentials[0]), api.OK
}

// search is a valid ionogram, and valid rules by which a trace is looked for.
type search struct {
	gram
	api.TraceRules
}

func searchOf(g api.TraceGram, r api.TraceRules) (search, api.Errno) {
	if e := CheckRules(g, r); e != api.OK {
		return search{}, e
	}
	return search{gram: gram{g}, TraceRules: r}, api.OK
}

// width returns the number of columns from From to To.
func (s search) width() int {
	return s.To - s.From + 1
}

func (s search) costAt(column, row int) int {
	cell := s.Columns[column][row]
	if cell.Tag == s.Tag || cell.Tag == api.TraceUndecided {
		return api.MaxTraceAmplitude - cell.Amplitude
	}
	return s.Miss
}

// jumpCost returns the cost of the difference of neighbouring rows.
func (s search) jumpCost(row, next int) int {
	return s.Jump * sizeOf(row-next)
}

// neighbours ranges over the rows to which a trace may go on from a row, ascending.
func (s search) neighbours(row int) iter.Seq[int] {
	return func(yield func(int) bool) {
		last := min(row+s.Limit, s.height()-1)
		for next := max(row-s.Limit, 0); next <= last; next++ {
			if !yield(next) {
				return
			}
		}
	}
}

func (s search) fits(p api.TracePath) bool {
	if p.From != s.From || len(p.Rows) != s.width() || slices.Contains(p.Rows, removed) {
		return false
	}
	for i, row := range p.Rows[1:] {
		if sizeOf(row-p.Rows[i]) > s.Limit {
			return false
		}
	}
	return true
}

func (s search) cost(p api.TracePath) int {
	sum := 0
	for i, row := range p.Rows {
		sum += s.costAt(s.From+i, row)
		if i > 0 {
			sum += s.jumpCost(p.Rows[i-1], row)
		}
	}
	return sum
}

// cheapest follows the minimum costs from the first column on; the first row of several is taken each time.
func (s search) cheapest() (api.TracePath, int) {
	costs := s.remaining()
	least := slices.Min(costs[0])
	rows := []int{slices.Index(costs[0], least)}
	for i := range s.width() - 1 {
		next, _ := s.onward(rows[i], costs[i+1])
		rows = append(rows, next)
	}
	return api.TracePath{From: s.From, Rows: rows}, least
}

// remaining returns for each row of each column from From to To the minimum cost of a trace from there on.
func (s search) remaining() [][]int {
	costs := make([][]int, s.width())
	for back := range s.width() {
		i := s.width() - 1 - back
		costs[i] = make([]int, s.height())
		for row := range s.height() {
			costs[i][row] = s.highest(costs, i, row)
		}
	}
	return costs
}

// highest returns the maximum number that a row may have in valid potentials, by the numbers of the next column.
func (s search) highest(potentials [][]int, i, row int) int {
	cost := s.costAt(s.From+i, row)
	if i == len(potentials)-1 {
		return cost
	}
	_, rest := s.onward(row, potentials[i+1])
	return cost + rest
}

// onward returns the first row of the next column over which the rest is cheapest, and what the rest costs, by the numbers of that column.
func (s search) onward(row int, ahead []int) (int, int) {
	best, least := removed, 0
	for next := range s.neighbours(row) {
		cost := s.jumpCost(row, next) + ahead[next]
		if best == removed || cost < least {
			best, least = next, cost
		}
	}
	return best, least
}

func (s search) valid(potentials [][]int) bool {
	for i, numbers := range potentials {
		for row, number := range numbers {
			if number > s.highest(potentials, i, row) {
				return false
			}
		}
	}
	return true
}

// potentialsError returns the error of the shape of all potentials before that of a number.
func (s search) potentialsError(potentials [][]int) api.Errno {
	wrongHeight := func(numbers []int) bool { return len(numbers) != s.height() }
	if len(potentials) != s.width() || slices.ContainsFunc(potentials, wrongHeight) {
		return api.ErrShape
	}
	_, e := firstBad(slices.Concat(potentials...), func(_, number int) api.Errno {
		return errorIf(outside(number, -api.MaxTraceValue, api.MaxTraceValue), api.ErrRange)
	})
	return e
}
