package linear_test

import (
	"slices"
	"testing"

	"touchstone/api"
)

// expectUnfit expects that neither Narrow nor Ends takes c and d.
func expectUnfit(t *testing.T, c api.Con, d []list) {
	t.Helper()
	expectNarrow(t, c, d, nil, api.ErrArg)
	expectEnds(t, c, d, 0, 0, false)
}

// ofOtherKinds are valid constraints of the other Kinds, on four variables with the values 0 and 1.
func ofOtherKinds() []api.Con {
	return []api.Con{
		{Kind: api.LinEqReif, X: []int{0, 1, 2}, A: []int64{1, 2}, C: 3},
		{Kind: api.LinLeReif, X: []int{0, 1, 2}, A: []int64{1, 2}, C: 3},
		{Kind: api.LinLeImp, X: []int{0, 1, 2}, A: []int64{1, 2}, C: 3},
		{Kind: api.Times, X: []int{0, 1, 2}},
		{Kind: api.Min, X: []int{0, 1, 2}},
		{Kind: api.Max, X: []int{0, 1, 2}},
		{Kind: api.Abs, X: []int{0, 1}},
		{Kind: api.Clause, X: []int{0, 1}, A: []int64{1, -1}},
		{Kind: api.And, X: []int{0, 1, 2}},
		{Kind: api.Or, X: []int{0, 1, 2}},
		{Kind: api.Xor, X: []int{0, 1, 2}},
		{Kind: api.Same, X: []int{0, 1}},
		{Kind: api.Element, X: []int{0, 1}, A: []int64{1, 2}},
		{Kind: api.VarElement, X: []int{0, 1, 2, 3}},
		{Kind: api.AllDiff, X: []int{0, 1}},
		{Kind: api.Cumulative, X: []int{0, 1}, A: []int64{1, 1, 1, 1}, C: 1},
	}
}

// P12.1, P12.2: the other Kinds are not known where they fit, and unfit where they don't.
func TestOtherKinds(t *testing.T) {
	d := slices.Repeat([]list{ranges(0, 1)}, 4)
	for _, c := range ofOtherKinds() {
		expectNarrow(t, c, d, nil, api.ErrKnow)
		if c.Kind > api.LinLeImp {
			expectEnds(t, c, d, 0, 0, false)
		} else {
			expectEnds(t, c, d, 0, 3, true)
		}
		expectUnfit(t, c, nil)
		expectUnfit(t, c, append(d[:3:3], nil))
		c.X = append(c.X, 4)
		expectUnfit(t, c, d)
	}
}

// P12.1, P12.2: numbers that are no Kind.
func TestNoKind(t *testing.T) {
	d := slices.Repeat([]list{ranges(0, 1)}, 4)
	for _, kind := range []int{least, -256, -19, -3, -1, 0, 20, 21, 256 + api.LinLe, 1<<32 + api.LinLe, greatest} {
		expectUnfit(t, con(kind, 0), d)
		expectUnfit(t, con(kind, 0), nil)
		expectUnfit(t, con(kind, 1, 1, 1), d)
		expectUnfit(t, on([]int{0, 1, 2}, kind, 1, 1, 1), d)
	}
}

// plainKinds are the Kinds that Narrow takes.
func plainKinds() []int {
	return []int{api.LinEq, api.LinLe, api.LinNe}
}

// P12.1, P12.2: lists that are no domains, of a variable that is in X and of one that isn't.
func TestWrongDomains(t *testing.T) {
	for _, wrong := range []list{
		nil, {},
		ranges(1, 0), ranges(0, -1), ranges(5, 6, 3, 4), ranges(1, 3, 2, 5), ranges(1, 2, 3, 4), ranges(1, 1, 1, 1),
		ranges(0, 1, 5, 4), ranges(0, most+1), ranges(-most-1, 0), ranges(least, greatest), ranges(greatest, least),
		ranges(most+1, most+1), ranges(0, 0, 2, most+1),
	} {
		for _, kind := range plainKinds() {
			expectUnfit(t, con(kind, 9, 1), []list{wrong})
			expectUnfit(t, con(kind, 9, 1), []list{ranges(0, 1), wrong})
			expectUnfit(t, con(kind, 9, 1, 1), []list{ranges(0, 1), wrong, ranges(0, 1)})
			expectUnfit(t, con(kind, 9), []list{wrong})
		}
	}
}

// P12.1, P12.2: as many domains as there may be, and more.
func TestCountOfDomains(t *testing.T) {
	for _, n := range []int{1, 2, 63, 64, 65, 66, 128, 5000} {
		d := slices.Repeat([]list{ranges(0, 5)}, n)
		for _, kind := range plainKinds() {
			for _, c := range []api.Con{on([]int{n - 1}, kind, 9, 1), con(kind, 9, 1), on(nil, kind, 9)} {
				if n > 64 {
					expectUnfit(t, c, d)
					continue
				}
				if kind == api.LinEq {
					expectNarrow(t, c, d, nil, api.ErrFail)
				} else {
					expectNarrow(t, c, d, d, api.OK)
				}
				expectEnds(t, c, d, 0, int64(5*len(c.X)), true)
			}
		}
	}
}

// P12.1, P12.2: an X that is no variable.
func TestWrongX(t *testing.T) {
	d := []list{ranges(0, 5), ranges(0, 5)}
	for _, kind := range plainKinds() {
		for _, x := range []int{least, -2, -1, 2, 3, 63, 64, 1 << 32, greatest} {
			expectUnfit(t, on([]int{x}, kind, 3, 1), d)
			expectUnfit(t, on([]int{x, 0}, kind, 3, 1, 1), d)
			expectUnfit(t, on([]int{0, x}, kind, 3, 1, 1), d)
			expectUnfit(t, on([]int{0, x}, kind, 3, 1, 0), d)
		}
		expectUnfit(t, on([]int{0}, kind, 3, 1), nil)
	}
}

// P12.1, P12.2: too few and too many X and A.
func TestWrongCounts(t *testing.T) {
	d := []list{ranges(0, 5)}
	for _, kind := range plainKinds() {
		for x := range 40 {
			for a := range 40 {
				c := on(make([]int, x), kind, 0, make([]int64, a)...)
				if x != a || x > 32 {
					expectUnfit(t, c, d)
					continue
				}
				expectJudged(t, c, d)
				expectEnds(t, c, d, 0, 0, true)
			}
		}
	}
}

// P12.1, P12.2: numbers at the limits, and beyond them.
func TestWrongNumbers(t *testing.T) {
	d := []list{ranges(-1, 1), ranges(0, 0)}
	for _, kind := range plainKinds() {
		for _, n := range []int64{least, -1 << 32, -most - 1, most + 1, 1 << 32, greatest} {
			expectUnfit(t, con(kind, n, 1, 1), d)
			expectUnfit(t, con(kind, n), d)
			expectUnfit(t, con(kind, 0, n, 1), d)
			expectUnfit(t, con(kind, 0, 1, n), d)
		}
		for _, n := range []int64{-most, most} {
			expectJudged(t, con(kind, n, 1, 1), d)
			expectJudged(t, con(kind, 0, n, 1), d)
			expectJudged(t, con(kind, n, n, -n), d)
			expectEnds(t, con(kind, n, n, 1), d, -most, most, true)
		}
	}
}
