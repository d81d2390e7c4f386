package arith_test

import (
	"slices"
	"testing"

	"touchstone/api"
)

func expectUnfit(t *testing.T, c api.Con, d []list) {
	t.Helper()
	expectNarrow(t, c, d, nil, api.ErrArg)
}

// ofOtherKinds are valid constraints of the other Kinds, on four variables with the values 0 and 1.
func ofOtherKinds() []api.Con {
	return []api.Con{
		{Kind: api.LinEq, X: []int{0, 1, 2}, A: []int64{1, 2, 3}, C: 3},
		{Kind: api.LinLe, X: []int{0, 1, 2}, A: []int64{1, 2, 3}, C: 3},
		{Kind: api.LinNe, X: []int{0, 1, 2}, A: []int64{1, 2, 3}, C: 3},
		{Kind: api.LinEqReif, X: []int{0, 1, 2}, A: []int64{1, 2}, C: 3},
		{Kind: api.LinLeReif, X: []int{0, 1, 2}, A: []int64{1, 2}, C: 3},
		{Kind: api.LinLeImp, X: []int{0, 1, 2}, A: []int64{1, 2}, C: 3},
		{Kind: api.LinLeImp, X: []int{0}, C: 3},
		{Kind: api.Clause, X: []int{0, 1}, A: []int64{1, -1}},
		{Kind: api.Clause},
		{Kind: api.And, X: []int{0, 1, 2}},
		{Kind: api.And, X: []int{0}},
		{Kind: api.Or, X: []int{0, 1, 2}},
		{Kind: api.Xor, X: []int{0, 1, 2}},
		{Kind: api.Element, X: []int{0, 1}, A: []int64{1, 2}},
		{Kind: api.VarElement, X: []int{0, 1, 2, 3}},
		{Kind: api.AllDiff, X: []int{0, 1}},
		{Kind: api.AllDiff, X: []int{0, 1, 2}},
		{Kind: api.AllDiff},
		{Kind: api.Cumulative, X: []int{0, 1}, A: []int64{1, 1, 1, 1}, C: 1},
		{Kind: api.Cumulative},
	}
}

// P14.1: the other Kinds are not known where they fit, and unfit where they don't.
func TestOtherKinds(t *testing.T) {
	for _, domain := range []list{one(0), one(1), ranges(0, 1)} {
		d := slices.Repeat([]list{domain}, 4)
		for _, c := range ofOtherKinds() {
			expectNarrow(t, c, d, nil, api.ErrKnow)
			expectUnfit(t, c, append(d[:3:3], nil))
			c.X = append(c.X, 4)
			expectUnfit(t, c, d)
		}
	}
	expectNarrow(t, api.Con{Kind: api.AllDiff}, nil, nil, api.ErrKnow)
	expectNarrow(t, api.Con{Kind: api.LinLe, C: -1}, nil, nil, api.ErrKnow)
}

// P14.1: numbers that are no Kind.
func TestNoKind(t *testing.T) {
	d := slices.Repeat([]list{ranges(0, 1)}, 3)
	for _, kind := range []int{least, -256, -19, -8, -7, -1, 0, 20, 21, 256 + api.Times, 1<<32 + api.Times, greatest} {
		for n := range 4 {
			expectUnfit(t, on(kind, []int{0, 1, 2}[:n]...), d)
			expectUnfit(t, on(kind, make([]int, n)...), d)
		}
		expectUnfit(t, on(kind), nil)
		expectUnfit(t, api.Con{Kind: kind, X: []int{0, 1}, A: []int64{1, 1}, C: 1}, d)
	}
}

// P14.1: lists that are no domains, at each position and of a variable that c doesn't name.
func TestWrongDomains(t *testing.T) {
	for _, wrong := range []list{
		nil, {},
		ranges(1, 0), ranges(0, -1), ranges(5, 6, 3, 4), ranges(1, 3, 2, 5), ranges(1, 2, 3, 4), ranges(1, 1, 1, 1), ranges(0, 0, 1, 1),
		ranges(0, 1, 5, 4), ranges(0, most+1), ranges(-most-1, 0), ranges(least, greatest), ranges(greatest, least),
		ranges(most+1, most+1), ranges(0, 0, 2, most+1),
	} {
		for _, kind := range kinds() {
			for x := range 4 {
				d := slices.Repeat([]list{ranges(0, 5)}, 4)
				d[x] = wrong
				expectUnfit(t, con(kind), d)
				expectUnfit(t, on(kind, make([]int, count(kind))...), d)
			}
			expectUnfit(t, on(kind, make([]int, count(kind))...), []list{wrong})
		}
	}
}

// P14.1: as many domains as there may be, and more; none at all.
func TestCountOfDomains(t *testing.T) {
	for _, n := range []int{3, 4, 63, 64, 65, 66, 128, 5000} {
		d := slices.Repeat([]list{ranges(0, 5)}, n)
		for _, kind := range kinds() {
			if n > 64 {
				expectUnfit(t, con(kind), d)
			} else {
				expectJudged(t, con(kind), d)
			}
		}
	}
	for _, kind := range kinds() {
		for n := range count(kind) {
			expectUnfit(t, con(kind), slices.Repeat([]list{ranges(0, 5)}, n))
		}
	}
}

// P14.1: an X that is no variable, at each position.
func TestWrongX(t *testing.T) {
	d := slices.Repeat([]list{ranges(0, 5)}, 3)
	for _, kind := range kinds() {
		for _, wrong := range []int{least, -64, -2, -1, 3, 4, 63, 64, 1 << 32, greatest} {
			for at := range count(kind) {
				c := con(kind)
				c.X[at] = wrong
				expectUnfit(t, c, d)
			}
		}
	}
}

// P14.1: too few and too many X; numbers in A or C, where there are none.
func TestWrongCounts(t *testing.T) {
	d := slices.Repeat([]list{ranges(0, 5)}, 3)
	for _, kind := range kinds() {
		for n := range 40 {
			c := on(kind, make([]int, n)...)
			if n == count(kind) {
				expectJudged(t, c, d)
			} else {
				expectUnfit(t, c, d)
			}
			for _, a := range [][]int64{{0}, {1}, {1, 1}, {1, 1, 1}, make([]int64, n+1)} {
				c.A = a
				expectUnfit(t, c, d)
			}
		}
		for _, n := range []int64{least, -most - 1, -most, -1, 1, 2, most, most + 1, 1 << 32, greatest} {
			c := con(kind)
			c.C = n
			expectUnfit(t, c, d)
		}
		// An empty list of numbers is none.
		c := con(kind)
		c.A = []int64{}
		expectJudged(t, c, d)
	}
}

// P14.1: what doesn't fit is told ahead of what fails.
func TestWrongAheadOfFail(t *testing.T) {
	for _, c := range []api.Con{con(api.Times), con(api.Min), con(api.Max), con(api.Abs), con(api.Same)} {
		d := []list{one(2), one(-3), one(-7)}
		if c.Kind == api.Max {
			d[2] = one(7)
		}
		expectNarrow(t, c, d, nil, api.ErrFail)
		c.C = 1
		expectUnfit(t, c, d)
		c.C = 0
		expectUnfit(t, c, append(d, nil))
	}
}
