package elem_test

import (
	"slices"
	"testing"

	"touchstone/api"
)

func expectUnfit(t *testing.T, c api.Con, d []list) {
	t.Helper()
	expectNarrow(t, c, d, nil, api.ErrArg)
}

// copyOf is a constraint that may be changed.
func copyOf(c api.Con) api.Con {
	c.X, c.A = slices.Clone(c.X), slices.Clone(c.A)
	return c
}

// ofOtherKinds are valid constraints of the other Kinds, on four variables with the values 0 and 1.
func ofOtherKinds() []api.Con {
	return []api.Con{
		{Kind: api.LinEq, X: []int{0, 1, 2}, A: []int64{1, 2, 3}, C: 3},
		{Kind: api.LinLe, X: []int{0, 1, 2}, A: []int64{1, 2, 3}, C: 3},
		{Kind: api.LinNe, X: []int{0, 1, 2}, A: []int64{1, 2, 3}, C: 3},
		{Kind: api.LinEqReif, X: []int{0, 1, 2}, A: []int64{1, 2}, C: 3},
		{Kind: api.LinLeReif, X: []int{0, 1, 2}, A: []int64{1, 2}, C: 3},
		{Kind: api.LinLeImp, X: []int{0, 1, 2}, A: []int64{1, 2}, C: 3},
		{Kind: api.LinLeImp, X: []int{0}},
		{Kind: api.Times, X: []int{0, 1, 2}},
		{Kind: api.Min, X: []int{0, 1, 2}},
		{Kind: api.Max, X: []int{0, 1, 2}},
		{Kind: api.Abs, X: []int{0, 1}},
		{Kind: api.Clause, X: []int{0, 1}, A: []int64{1, -1}},
		{Kind: api.Clause},
		{Kind: api.And, X: []int{0, 1, 2}},
		{Kind: api.And, X: []int{0}},
		{Kind: api.Or, X: []int{0, 1, 2}},
		{Kind: api.Xor, X: []int{0, 1, 2}},
		{Kind: api.Same, X: []int{0, 1}},
		{Kind: api.AllDiff, X: []int{0, 1}},
		{Kind: api.AllDiff, X: []int{0, 1, 2}},
		{Kind: api.AllDiff},
		{Kind: api.Cumulative, X: []int{0, 1}, A: []int64{1, 1, 1, 1}, C: 1},
		{Kind: api.Cumulative},
	}
}

// P16.1: the other Kinds are not known where they fit, and unfit where they don't.
func TestOtherKinds(t *testing.T) {
	for _, domain := range []list{one(0), one(1), ranges(0, 1)} {
		d := slices.Repeat([]list{domain}, 4)
		for _, c := range ofOtherKinds() {
			expectNarrow(t, c, d, nil, api.ErrKnow)
			expectUnfit(t, c, append(d[:3:3], nil))
			c.X = append(c.X, 4)
			expectUnfit(t, c, d)
		}
	}
	expectNarrow(t, api.Con{Kind: api.AllDiff}, nil, nil, api.ErrKnow)
	expectNarrow(t, api.Con{Kind: api.LinLe, C: -1}, nil, nil, api.ErrKnow)
}

// P16.1: numbers that are no Kind.
func TestNoKind(t *testing.T) {
	d := slices.Repeat([]list{ranges(1, 2)}, 4)
	for _, kind := range []int{least, -256, -19, -17, -16, -1, 0, 20, 21, 99, 256 + api.Element, 1<<32 + api.Element, 1<<32 + api.VarElement, greatest} {
		for n := range 5 {
			expectUnfit(t, api.Con{Kind: kind, X: places(n)}, d)
			expectUnfit(t, api.Con{Kind: kind, X: make([]int, n)}, d)
			expectUnfit(t, api.Con{Kind: kind, X: places(n), A: []int64{1, 2}}, d)
		}
		expectUnfit(t, api.Con{Kind: kind}, nil)
	}
}

// P16.1: lists that are no domains, at each position and of a variable that c doesn't name.
func TestWrongDomains(t *testing.T) {
	for _, wrong := range []list{
		nil, {},
		ranges(1, 0), ranges(2, 1), ranges(5, 6, 3, 4), ranges(1, 3, 2, 5), ranges(1, 2, 3, 4), ranges(1, 1, 1, 1), ranges(1, 1, 2, 2),
		ranges(1, 2, 5, 4), ranges(1, most+1), ranges(-most-1, 2), ranges(least, greatest), ranges(greatest, least),
		ranges(most+1, most+1), ranges(1, 1, 3, most+1),
	} {
		for _, kind := range kinds() {
			for x := range 5 {
				d := slices.Repeat([]list{ranges(1, 2)}, 5)
				d[x] = wrong
				expectUnfit(t, con(kind), d)
			}
		}
		expectUnfit(t, tableOn(0, 0, 1), []list{wrong})
		expectUnfit(t, among(0, 0, 0), []list{wrong})
	}
}

// P16.1: as many domains as there may be, and more; too few, and none at all.
func TestCountOfDomains(t *testing.T) {
	for _, kind := range kinds() {
		c := con(kind)
		for _, n := range []int{4, 5, 63, 64, 65, 66, 128, 5000} {
			d := slices.Repeat([]list{ranges(1, 2)}, n)
			if n > 64 {
				expectUnfit(t, c, d)
			} else {
				expectNarrow(t, c, d, d, api.OK)
			}
		}
		for n := range len(c.X) {
			expectUnfit(t, c, slices.Repeat([]list{ranges(1, 2)}, n))
		}
	}
}

// P16.1: an X that is no variable, at each position, whether the index may choose it or not.
func TestWrongX(t *testing.T) {
	for _, index := range []list{one(0), one(1), ranges(1, 2), one(9)} {
		d := slices.Repeat([]list{ranges(1, 2)}, 4)
		d[0] = index
		for _, kind := range kinds() {
			for at := range con(kind).X {
				for _, wrong := range []int{least, -64, -2, -1, 4, 5, 63, 64, 1 << 32, greatest} {
					c := copyOf(con(kind))
					c.X[at] = wrong
					expectUnfit(t, c, d)
				}
			}
		}
	}
}

// P16.1: too few and too many X, and numbers in A where there are none, or too few and too many of them.
func TestWrongCounts(t *testing.T) {
	d := []list{ranges(0, 40)}
	for x := range 40 {
		for a := range 70 {
			c := api.Con{Kind: api.Element, X: make([]int, x), A: numbers(1, a)}
			if x == 2 && a >= 1 && a <= 64 {
				expectJudged(t, c, d)
			} else {
				expectUnfit(t, c, d)
			}
			c.Kind = api.VarElement
			if x >= 3 && x <= 32 && a == 0 {
				expectJudged(t, c, d)
			} else {
				expectUnfit(t, c, d)
			}
		}
	}
	// An empty list of numbers is none.
	c := among(0, 0, 0)
	c.A = []int64{}
	expectNarrow(t, c, d, []list{one(1)}, api.OK)
	expectUnfit(t, api.Con{Kind: api.Element, X: []int{0, 0}, A: []int64{}}, d)
}

// P16.1: numbers of a table that no variable may have, at each position, whether the index may choose them or not.
func TestWrongNumbers(t *testing.T) {
	for _, index := range []list{one(0), one(1), ranges(1, 3), ranges(2, 9)} {
		d := []list{index, all()}
		for at := range 3 {
			for _, wrong := range []int64{least, -1 << 32, -most - 2, -most - 1, most + 1, most + 2, 1<<32 + 1, greatest} {
				c := table(1, 2, 3)
				c.A[at] = wrong
				expectUnfit(t, c, d)
			}
			for _, right := range []int64{-most, 0, most} {
				c := table(1, 2, 3)
				c.A[at] = right
				expectJudgedWide(t, c, d)
			}
		}
	}
}

// expectJudgedWide holds Narrow against the judge, where the result has all values: the judge is given fewer.
func expectJudgedWide(t *testing.T, c api.Con, d []list) {
	t.Helper()
	few := append(slices.Clone(d[:1]), ranges(-most, -most, -9, 9, most, most))
	want, err := judged(c, few)
	expectNarrow(t, c, d, want, err)
}

// P16.1: a C that is not 0.
func TestWrongC(t *testing.T) {
	d := slices.Repeat([]list{ranges(1, 2)}, 4)
	for _, kind := range kinds() {
		for _, n := range []int64{least, -most - 1, -most, -1, 1, 2, most, most + 1, 1 << 32, greatest} {
			c := con(kind)
			c.C = n
			expectUnfit(t, c, d)
		}
	}
}

// P16.1: what doesn't fit is told ahead of what fails.
func TestWrongAheadOfFail(t *testing.T) {
	for _, kind := range kinds() {
		c := con(kind)
		d := slices.Repeat([]list{one(5)}, 4)
		expectNarrow(t, c, d, nil, api.ErrFail)
		c.C = 1
		expectUnfit(t, c, d)
		c.C = 0
		expectUnfit(t, c, append(d, nil))
		c.X = append(c.X, -1)
		expectUnfit(t, c, d)
	}
}
