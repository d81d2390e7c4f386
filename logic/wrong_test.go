package logic_test

import (
	"strings"
	"testing"

	"touchstone/api"
)

func expectUnfit(t *testing.T, c api.Con, d []list) {
	t.Helper()
	expectNarrow(t, c, d, nil, api.ErrArg)
}

// con is a constraint on the first three variables.
func con(kind int) api.Con {
	if kind == api.Clause {
		return on(kind, "+-+", 0, 1, 2)
	}
	return on(kind, "", 0, 1, 2)
}

// ofOtherKinds are valid constraints of the other Kinds, on four variables with the values 0 and 1.
func ofOtherKinds() []api.Con {
	return []api.Con{
		{Kind: api.LinEq, X: []int{0, 1, 2}, A: []int64{1, 2, 3}, C: 3},
		{Kind: api.LinLe, X: []int{0, 1, 2}, A: []int64{1, 2, 3}, C: 3},
		{Kind: api.LinNe, X: []int{0, 1, 2}, A: []int64{1, 2, 3}, C: 3},
		{Kind: api.LinEqReif, X: []int{0, 1, 2}, A: []int64{1, 2}, C: 3},
		{Kind: api.LinLeReif, X: []int{0, 1, 2}, A: []int64{1, 2}, C: 3},
		{Kind: api.LinLeImp, X: []int{0, 1, 2}, A: []int64{1, 2}, C: 3},
		{Kind: api.LinLeImp, X: []int{0}},
		{Kind: api.Times, X: []int{0, 1, 2}},
		{Kind: api.Min, X: []int{0, 1, 2}},
		{Kind: api.Max, X: []int{0, 1, 2}},
		{Kind: api.Abs, X: []int{0, 1}},
		{Kind: api.Same, X: []int{0, 1}},
		{Kind: api.Element, X: []int{0, 1}, A: []int64{1, 2}},
		{Kind: api.VarElement, X: []int{0, 1, 2, 3}},
		{Kind: api.AllDiff, X: []int{0, 1}},
		{Kind: api.AllDiff, X: []int{0, 1, 2}},
		{Kind: api.AllDiff},
		{Kind: api.Cumulative, X: []int{0, 1}, A: []int64{1, 1, 1, 1}, C: 1},
		{Kind: api.Cumulative},
	}
}

// P15.1: the other Kinds are not known where they fit, and unfit where they don't.
func TestOtherKinds(t *testing.T) {
	for _, states := range []string{"0000", "1111", "????", "0101", "?01?"} {
		d := doms(states)
		for _, c := range ofOtherKinds() {
			expectNarrow(t, c, d, nil, api.ErrKnow)
			expectUnfit(t, c, append(d[:3:3], nil))
			c.X = append(c.X, 4)
			expectUnfit(t, c, d)
		}
	}
	expectNarrow(t, api.Con{Kind: api.AllDiff}, nil, nil, api.ErrKnow)
	expectNarrow(t, api.Con{Kind: api.LinLe, C: -1}, nil, nil, api.ErrKnow)
	expectNarrow(t, api.Con{Kind: api.Times, X: []int{0, 1, 2}}, doms("www"), nil, api.ErrKnow)
}

// P15.1: numbers that are no Kind.
func TestNoKind(t *testing.T) {
	d := doms("???")
	for _, kind := range []int{least, -256, -19, -14, -11, -1, 0, 20, 21, 256 + api.And, 1<<32 + api.And, greatest} {
		for n := range 4 {
			expectUnfit(t, on(kind, "", places(n)...), d)
			expectUnfit(t, on(kind, "", make([]int, n)...), d)
			expectUnfit(t, on(kind, strings.Repeat("+", n), places(n)...), d)
		}
		expectUnfit(t, on(kind, ""), nil)
		expectUnfit(t, api.Con{Kind: kind, X: []int{0, 1}, A: []int64{1, 1}, C: 1}, d)
	}
}

// P15.1: lists that are no domains, at each position and of a variable that c doesn't name.
func TestWrongDomains(t *testing.T) {
	for _, wrong := range []list{
		nil, {},
		ranges(1, 0), ranges(0, -1), ranges(5, 6, 3, 4), ranges(1, 3, 2, 5), ranges(0, 0, 1, 1), ranges(1, 1, 0, 0), ranges(1, 1, 1, 1), ranges(0, 1, 0, 1),
		ranges(0, 1, 5, 4), ranges(0, most+1), ranges(-most-1, 0), ranges(least, greatest), ranges(greatest, least),
		ranges(most+1, most+1), ranges(0, 0, 2, most+1),
	} {
		for _, kind := range kinds() {
			for x := range 4 {
				d := doms("?01?")
				d[x] = wrong
				expectUnfit(t, con(kind), d)
			}
		}
		for _, kind := range []int{api.And, api.Or} {
			expectUnfit(t, on(kind, "", 0), []list{wrong})
		}
		expectUnfit(t, on(api.Clause, "-", 0), []list{wrong})
		expectUnfit(t, on(api.Clause, ""), []list{wrong})
	}
}

// P15.1: a value that is neither 0 nor 1, at each position; such a variable may be there if c doesn't name it.
func TestNotBoolean(t *testing.T) {
	for _, wide := range []list{
		ranges(-1, 0), ranges(-1, 1), ranges(0, 2), ranges(1, 2), ranges(-1, -1), ranges(2, 2), ranges(0, 0, 2, 2), ranges(-1, -1, 1, 1),
		ranges(-most, most), ranges(most, most), ranges(0, 1, most, most), ranges(-most, -most, 0, 1),
	} {
		for _, kind := range kinds() {
			for x := range 3 {
				for _, states := range []string{"000", "111", "???"} {
					d := doms(states)
					d[x] = wide
					expectUnfit(t, con(kind), d)
				}
			}
		}
		d := append(doms("?0?"), wide)
		expectNarrow(t, con(api.Xor), d, d, api.OK)
		expectNarrow(t, con(api.And), d, append(doms("?00"), wide), api.OK)
		expectUnfit(t, on(api.And, "", 0, 1, 3), d)
		expectUnfit(t, on(api.Or, "", 3), d)
		expectUnfit(t, on(api.Clause, "+", 3), d)
	}
}

// P15.1: as many domains as there may be, and more; too few, and none at all.
func TestCountOfDomains(t *testing.T) {
	for _, n := range []int{3, 4, 63, 64, 65, 66, 128, 5000} {
		states := strings.Repeat("1", n)
		for _, kind := range kinds() {
			if n > 64 {
				expectUnfit(t, con(kind), doms(states))
			} else {
				expectJudged(t, con(kind), states)
			}
		}
	}
	for _, kind := range kinds() {
		for n := range 3 {
			expectUnfit(t, con(kind), doms("111"[:n]))
		}
	}
	expectUnfit(t, on(api.Clause, ""), doms(strings.Repeat("?", 65)))
	expectUnfit(t, api.Con{Kind: api.AllDiff}, doms(strings.Repeat("?", 65)))
}

// P15.1: an X that is no variable, at each position.
func TestWrongX(t *testing.T) {
	for _, states := range []string{"000", "111", "???"} {
		for _, kind := range kinds() {
			for _, wrong := range []int{least, -64, -2, -1, 3, 4, 63, 64, 1 << 32, greatest} {
				for at := range 3 {
					c := con(kind)
					c.X[at] = wrong
					expectUnfit(t, c, doms(states))
				}
			}
		}
	}
}

// P15.1: too few and too many X, and numbers in A where there are none, or too few and too many of them.
func TestWrongCounts(t *testing.T) {
	for _, kind := range kinds() {
		for x := range 36 {
			for a := range 36 {
				c := on(kind, strings.Repeat("+", a), make([]int, x)...)
				fits := x <= 32
				switch kind {
				case api.Clause:
					fits = fits && a == x
				case api.Xor:
					fits = a == 0 && x == 3
				default:
					fits = fits && a == 0 && x > 0
				}
				if fits {
					expectJudged(t, c, "?")
				} else {
					expectUnfit(t, c, doms("?"))
				}
			}
		}
	}
}

// P15.1: numbers of a clause that are neither 1 nor -1, at each position, and a C that is not 0.
func TestWrongNumbers(t *testing.T) {
	for _, states := range []string{"010", "1?0", "01?", "???"} {
		d := doms(states)
		for _, wrong := range []int64{least, -1<<32 - 1, -most - 1, -most, -2, 0, 2, 3, most, most + 1, 1<<32 + 1, greatest} {
			for at := range 3 {
				c := con(api.Clause)
				c.A[at] = wrong
				expectUnfit(t, c, d)
			}
		}
		for _, kind := range kinds() {
			for _, n := range []int64{least, -most - 1, -most, -1, 1, 2, most, most + 1, 1 << 32, greatest} {
				c := con(kind)
				c.C = n
				expectUnfit(t, c, d)
			}
			for _, a := range [][]int64{{0}, {1}, {1, 1, 1, 1}} {
				c := con(kind)
				c.A = a
				expectUnfit(t, c, d)
			}
		}
	}
	// An empty list of numbers is none.
	for _, kind := range []int{api.And, api.Or, api.Xor} {
		c := con(kind)
		c.A = []int64{}
		expectLeft(t, c, "111", map[int]string{api.And: "111", api.Or: "111"}[kind])
	}
	expectNarrow(t, api.Con{Kind: api.Clause, X: []int{}, A: []int64{}}, []list{}, nil, api.ErrFail)
}
