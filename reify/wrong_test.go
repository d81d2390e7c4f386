package reify_test

import (
	"slices"
	"testing"

	"touchstone/api"
)

func expectUnfit(t *testing.T, c api.Con, d []list) {
	t.Helper()
	expectNarrow(t, c, d, nil, api.ErrArg)
}

// ofOtherKinds are valid constraints of the other Kinds, on four variables with the values 0 and 1.
func ofOtherKinds() []api.Con {
	return []api.Con{
		{Kind: api.LinEq, X: []int{0, 1, 2}, A: []int64{1, 2, 3}, C: 3},
		{Kind: api.LinLe, X: []int{0, 1, 2}, A: []int64{1, 2, 3}, C: 3},
		{Kind: api.LinNe, X: []int{0, 1, 2}, A: []int64{1, 2, 3}, C: 3},
		{Kind: api.Times, X: []int{0, 1, 2}},
		{Kind: api.Min, X: []int{0, 1, 2}},
		{Kind: api.Max, X: []int{0, 1, 2}},
		{Kind: api.Abs, X: []int{0, 1}},
		{Kind: api.Clause, X: []int{0, 1}, A: []int64{1, -1}},
		{Kind: api.And, X: []int{0, 1, 2}},
		{Kind: api.Or, X: []int{0, 1, 2}},
		{Kind: api.Xor, X: []int{0, 1, 2}},
		{Kind: api.Same, X: []int{0, 1}},
		{Kind: api.Element, X: []int{0, 1}, A: []int64{1, 2}},
		{Kind: api.VarElement, X: []int{0, 1, 2, 3}},
		{Kind: api.AllDiff, X: []int{0, 1}},
		{Kind: api.AllDiff},
		{Kind: api.Cumulative, X: []int{0, 1}, A: []int64{1, 1, 1, 1}, C: 1},
		{Kind: api.Cumulative},
	}
}

// P13.1: the other Kinds are not known where they fit, and unfit where they don't.
func TestOtherKinds(t *testing.T) {
	for _, flag := range flags() {
		d := slices.Repeat([]list{flag}, 4)
		for _, c := range ofOtherKinds() {
			expectNarrow(t, c, d, nil, api.ErrKnow)
			expectUnfit(t, c, append(d[:3:3], nil))
			c.X = append(c.X, 4)
			expectUnfit(t, c, d)
		}
	}
	expectNarrow(t, api.Con{Kind: api.LinLe}, nil, nil, api.ErrKnow)
	expectNarrow(t, api.Con{Kind: api.LinLe, C: -1}, nil, nil, api.ErrKnow)
}

// P13.1: numbers that are no Kind.
func TestNoKind(t *testing.T) {
	d := slices.Repeat([]list{maybe()}, 4)
	for _, kind := range []int{least, -256, -19, -5, -4, -1, 0, 20, 21, 256 + api.LinLeReif, 1<<32 + api.LinLeReif, greatest} {
		expectUnfit(t, on(nil, kind, 0), d)
		expectUnfit(t, on(nil, kind, 0), nil)
		expectUnfit(t, con(kind, 0), d)
		expectUnfit(t, con(kind, 1, 1, 1), d)
		expectUnfit(t, on([]int{0, 1}, kind, 1, 1, 1), d)
	}
}

// P13.1: lists that are no domains: of a variable in the sum, of the flag, and of one that c doesn't name.
func TestWrongDomains(t *testing.T) {
	for _, wrong := range []list{
		nil, {},
		ranges(1, 0), ranges(0, -1), ranges(5, 6, 3, 4), ranges(1, 3, 2, 5), ranges(1, 2, 3, 4), ranges(1, 1, 1, 1), ranges(0, 0, 1, 1),
		ranges(0, 1, 5, 4), ranges(0, most+1), ranges(-most-1, 0), ranges(least, greatest), ranges(greatest, least),
		ranges(most+1, most+1), ranges(0, 0, 2, most+1),
	} {
		for _, kind := range kinds() {
			for _, flag := range flags() {
				expectUnfit(t, con(kind, 9, 1), with(flag, wrong))
				expectUnfit(t, con(kind, 9, 1, 1), with(flag, ranges(0, 5), wrong))
				expectUnfit(t, con(kind, 9, 1), []list{ranges(0, 5), flag, wrong})
				expectUnfit(t, con(kind, 9), []list{flag, wrong})
			}
			expectUnfit(t, con(kind, 9, 1), with(wrong, ranges(0, 5)))
			expectUnfit(t, con(kind, 9), []list{wrong})
		}
	}
}

// P13.1: a flag with a value that is neither 0 nor 1; only the last variable is a flag.
func TestFlagNotBoolean(t *testing.T) {
	for _, flag := range []list{
		ranges(-1, 0), ranges(-1, 1), ranges(0, 2), ranges(1, 2), ranges(-1, -1), ranges(2, 2), ranges(0, 0, 2, 2), ranges(-1, -1, 1, 1),
		ranges(-most, most), ranges(most, most), ranges(0, 1, most, most),
	} {
		for _, kind := range kinds() {
			expectUnfit(t, con(kind, 3, 1), with(flag, maybe()))
			expectUnfit(t, con(kind, 3), []list{flag})
			expectUnfit(t, on([]int{0, 0}, kind, 3, 1), []list{flag})
			expectJudged(t, on([]int{0, 1}, kind, 3, 1), []list{ranges(-2, 2), maybe()})
			expectUnfit(t, on([]int{1, 0}, kind, 3, 1), []list{ranges(-2, 2), maybe()})
		}
	}
}

// P13.1: as many domains as there may be, and more.
func TestCountOfDomains(t *testing.T) {
	for _, n := range []int{2, 3, 63, 64, 65, 66, 128, 5000} {
		d := append(slices.Repeat([]list{ranges(0, 5)}, n-1), maybe())
		decided := slices.Clone(d)
		for _, kind := range kinds() {
			for _, x := range [][]int{{n - 2, n - 1}, {0, n - 1}} {
				c := on(x, kind, -1, 1)
				if n > 64 {
					expectUnfit(t, c, d)
					continue
				}
				decided[n-1] = no()
				expectNarrow(t, c, d, decided, api.OK)
			}
		}
	}
	for _, kind := range kinds() {
		expectUnfit(t, con(kind, 0), slices.Repeat([]list{maybe()}, 65))
		expectUnfit(t, con(kind, 0), nil)
	}
}

// P13.1: an X that is no variable, in the sum and as the flag.
func TestWrongX(t *testing.T) {
	d := []list{ranges(0, 5), maybe()}
	for _, kind := range kinds() {
		for _, x := range []int{least, -2, -1, 2, 3, 63, 64, 1 << 32, greatest} {
			expectUnfit(t, on([]int{x}, kind, 3), d)
			expectUnfit(t, on([]int{0, x}, kind, 3, 1), d)
			expectUnfit(t, on([]int{x, 1}, kind, 3, 1), d)
			expectUnfit(t, on([]int{x, 1}, kind, 3, 0), d)
			expectUnfit(t, on([]int{0, x, 1}, kind, 3, 1, 1), d)
		}
		expectUnfit(t, on([]int{0, 1}, kind, 3, 1), nil)
		expectUnfit(t, on([]int{0, 1}, kind, 3, 1), d[:1])
	}
}

// P13.1: too few and too many X and A.
func TestWrongCounts(t *testing.T) {
	for _, flag := range flags() {
		d := []list{flag}
		for _, kind := range kinds() {
			for x := range 40 {
				for a := range 40 {
					c := on(make([]int, x), kind, 0, make([]int64, a)...)
					if x != a+1 || x > 32 {
						expectUnfit(t, c, d)
					} else {
						expectJudged(t, c, d)
					}
				}
			}
		}
	}
}

// P13.1: numbers at the limits, and beyond them.
func TestWrongNumbers(t *testing.T) {
	for _, flag := range flags() {
		d := with(flag, ranges(-1, 1), ranges(0, 0))
		for _, kind := range kinds() {
			for _, n := range []int64{least, -1 << 32, -most - 1, most + 1, 1 << 32, greatest} {
				expectUnfit(t, con(kind, n, 1, 1), d)
				expectUnfit(t, on([]int{2}, kind, n), d)
				expectUnfit(t, con(kind, 0, n, 1), d)
				expectUnfit(t, con(kind, 0, 1, n), d)
			}
			for _, n := range []int64{-most, most} {
				expectJudged(t, con(kind, n, 1, 1), d)
				expectJudged(t, con(kind, 0, n, 1), d)
				expectJudged(t, con(kind, n, n, -n), d)
				expectJudged(t, con(kind, -n, n, 0), d)
			}
		}
	}
}
