package linear_test

import (
	"testing"

	"touchstone/api"
)

// P12.1: the chapter's examples.
func TestExamples(t *testing.T) {
	both := []list{ranges(0, 5), ranges(0, 5)}
	expectNarrow(t, con(api.LinLe, 3, 2, -1), both, []list{ranges(0, 4), ranges(0, 5)}, api.OK)
	expectNarrow(t, con(api.LinEq, 9, 1, 1), both, []list{ranges(4, 5), ranges(4, 5)}, api.OK)
	expectNarrow(t, con(api.LinNe, 3, 1, 1), []list{ranges(1, 1), ranges(0, 5)}, []list{ranges(1, 1), ranges(0, 1, 3, 5)}, api.OK)
	expectNarrow(t, con(api.LinLe, -1, 1), both[:1], nil, api.ErrFail)
}

// P12.1: all small domains of two variables, with all small numbers, at two places and at one.
func TestSmall(t *testing.T) {
	domains := domainsFrom(-1, 4)
	for _, kind := range []int{api.LinEq, api.LinLe, api.LinNe} {
		eachRow(2, -2, 2, func(a []int64) {
			for c := int64(-5); c <= 5; c++ {
				for _, first := range domains {
					expectJudged(t, on([]int{0, 0}, kind, c, a...), []list{first})
					for _, second := range domains {
						expectJudged(t, con(kind, c, a...), []list{first, second})
					}
				}
			}
		})
	}
}

// P12.1: one number and one variable, of a domain with holes, for each C around it.
func TestOneNumber(t *testing.T) {
	domains := append(domainsFrom(-4, 6), ranges(-9, -6, -2, 0, 3, 3, 7, 9), ranges(-9, 9))
	for _, kind := range []int{api.LinEq, api.LinLe, api.LinNe} {
		for a := int64(-4); a <= 4; a++ {
			for c := int64(-40); c <= 40; c++ {
				for _, d := range domains {
					expectJudged(t, con(kind, c, a), []list{d})
				}
			}
		}
	}
}

// P12.1: a domain that loses nothing, one end, both ends, and all.
func TestWhatIsLost(t *testing.T) {
	d := []list{ranges(0, 5), ranges(0, 2, 6, 9)}
	expectNarrow(t, con(api.LinLe, 14, 1, 1), d, d, api.OK)
	expectNarrow(t, con(api.LinLe, 8, 1, 1), d, []list{d[0], ranges(0, 2, 6, 8)}, api.OK)
	expectNarrow(t, con(api.LinLe, 5, 1, 1), d, []list{d[0], ranges(0, 2)}, api.OK)
	expectNarrow(t, con(api.LinLe, 0, 1, 1), d, []list{ranges(0, 0), ranges(0, 0)}, api.OK)
	expectNarrow(t, con(api.LinLe, -1, 1, 1), d, nil, api.ErrFail)
	expectNarrow(t, con(api.LinLe, -9, 0, -1), d, []list{d[0], ranges(9, 9)}, api.OK)
	expectNarrow(t, con(api.LinLe, -3, 0, -1), d, []list{d[0], ranges(6, 9)}, api.OK)
	expectNarrow(t, con(api.LinEq, 0, 2, -1), []list{ranges(-9, 9), ranges(1, 5)}, []list{ranges(1, 2), ranges(1, 4)}, api.OK)
	expectNarrow(t, con(api.LinEq, 4, 0, 1), d, nil, api.ErrFail)
	expectNarrow(t, con(api.LinEq, 3, 0, -2), d, nil, api.ErrFail)
}

// P12.1: a least sum that is one below, at and one above C.
func TestLeastSum(t *testing.T) {
	d := []list{ranges(2, 4), ranges(-3, 7, 10, 11)}
	for _, row := range []struct{ a, b, least int64 }{
		{1, 1, -1}, {1, -1, -9}, {-1, 1, -7}, {-1, -1, -15}, {3, 0, 6}, {0, -2, -22}, {0, 0, 0}, {5, -4, -34},
	} {
		for step := int64(-1); step <= 1; step++ {
			expectJudged(t, con(api.LinLe, row.least+step, row.a, row.b), d)
			expectJudged(t, con(api.LinEq, row.least+step, row.a, row.b), d)
			expectJudged(t, con(api.LinEq, -row.least-step, -row.a, -row.b), d)
		}
		expectNarrow(t, con(api.LinLe, row.least-1, row.a, row.b), d, nil, api.ErrFail)
		expectNarrow(t, con(api.LinEq, row.least-1, row.a, row.b), d, nil, api.ErrFail)
		expectNarrow(t, con(api.LinEq, -row.least+1, -row.a, -row.b), d, nil, api.ErrFail)
	}
}

// P12.1: all values are taken by the ends as they were, also of a variable that stands in two places.
func TestOneVariableTwice(t *testing.T) {
	d := []list{ranges(0, 5)}
	twice := []int{0, 0}
	expectNarrow(t, on(twice, api.LinLe, 3, 1, 1), d, []list{ranges(0, 3)}, api.OK)
	expectNarrow(t, on(twice, api.LinLe, 3, 1, 2), d, []list{ranges(0, 1)}, api.OK)
	expectNarrow(t, on(twice, api.LinLe, -8, -1, -1), d, []list{ranges(3, 5)}, api.OK)
	expectNarrow(t, on(twice, api.LinLe, -1, 1, -1), d, []list{ranges(1, 4)}, api.OK)
	expectNarrow(t, on(twice, api.LinLe, -2, 1, -1), d, []list{ranges(2, 3)}, api.OK)
	// The least sum is -5, so the sum may be -3 or less; yet no value is left by both places.
	expectNarrow(t, on(twice, api.LinLe, -3, 1, -1), d, nil, api.ErrFail)
	expectNarrow(t, on(twice, api.LinLe, -5, 1, -1), d, nil, api.ErrFail)
	expectNarrow(t, on(twice, api.LinEq, -3, 1, -1), d, nil, api.ErrFail)
	expectNarrow(t, on(twice, api.LinLe, -6, 1, -1), d, nil, api.ErrFail)
	// Another variable's room doesn't grow by what the first one has lost.
	both := []list{ranges(0, 5), ranges(0, 9)}
	expectNarrow(t, on([]int{0, 1, 0}, api.LinLe, -1, 1, 1, -1), both, []list{ranges(1, 4), ranges(0, 4)}, api.OK)
}

// P12.1: LinEq's second bound takes the domains that the first one left, and nothing is bounded again.
func TestSecondBound(t *testing.T) {
	// The first bound leaves 0 to 4 of x, so that 2 x is at most 8 in the second one, and y at least 1.
	d := []list{ranges(0, 9), ranges(0, 9)}
	expectNarrow(t, con(api.LinEq, 9, 2, 1), d, []list{ranges(0, 4), ranges(1, 9)}, api.OK)
	expectNarrow(t, con(api.LinEq, -9, -2, -1), d, []list{ranges(0, 4), ranges(0, 9)}, api.OK)
	// The hole is at the end that the first bound makes.
	holed := []list{ranges(0, 2, 8, 9), ranges(0, 9)}
	expectNarrow(t, con(api.LinEq, 7, 1, 1), holed, []list{ranges(0, 2), ranges(5, 7)}, api.OK)
	expectNarrow(t, con(api.LinEq, -7, -1, -1), holed, []list{ranges(0, 2), ranges(0, 7)}, api.OK)
	// What the first bound leaves lets the second one fail.
	gap := []list{ranges(0, 0, 9, 9), ranges(0, 0, 9, 9)}
	expectNarrow(t, con(api.LinEq, 5, 1, 1), gap, nil, api.ErrFail)
	expectNarrow(t, con(api.LinEq, 13, 1, 1), gap, []list{ranges(9, 9), ranges(9, 9)}, api.OK)
	expectNarrow(t, con(api.LinEq, -13, -1, -1), gap, nil, api.ErrFail)
}

// P12.1: LinNe where all positions that count have a single value, and where none counts.
func TestNotEqualFixed(t *testing.T) {
	d := []list{ranges(2, 2), ranges(-3, -3), ranges(0, 5)}
	for c := int64(-20); c <= 20; c++ {
		for _, row := range []struct {
			x []int
			a []int64
			s int64
		}{
			{[]int{0, 1}, []int64{1, 1}, -1},
			{[]int{0, 1}, []int64{-2, 3}, -13},
			{[]int{0, 0, 1}, []int64{1, 1, 1}, 1},
			{[]int{0, 2, 1}, []int64{4, 0, -1}, 11},
			{[]int{2, 0, 2}, []int64{0, -5, 0}, -10},
			{[]int{2, 2}, []int64{0, 0}, 0},
			{nil, nil, 0},
		} {
			if c == row.s {
				expectNarrow(t, on(row.x, api.LinNe, c, row.a...), d, nil, api.ErrFail)
			} else {
				expectNarrow(t, on(row.x, api.LinNe, c, row.a...), d, d, api.OK)
			}
		}
	}
}

// P12.1: LinNe with one open position, whose value is in the domain, or isn't, or would be no integer.
func TestNotEqualOpen(t *testing.T) {
	d := []list{ranges(0, 1, 4, 6), ranges(3, 3)}
	without := func(domain list) []list { return []list{domain, d[1]} }
	expectNarrow(t, con(api.LinNe, 8, 1, 1), d, without(ranges(0, 1, 4, 4, 6, 6)), api.OK)
	expectNarrow(t, con(api.LinNe, 7, 1, 1), d, without(ranges(0, 1, 5, 6)), api.OK)
	expectNarrow(t, con(api.LinNe, 3, 1, 1), d, without(ranges(1, 1, 4, 6)), api.OK)
	expectNarrow(t, con(api.LinNe, 9, 1, 1), d, without(ranges(0, 1, 4, 5)), api.OK)
	expectNarrow(t, con(api.LinNe, 5, 1, 1), d, d, api.OK)
	expectNarrow(t, con(api.LinNe, 10, 1, 1), d, d, api.OK)
	expectNarrow(t, con(api.LinNe, 2, 1, 1), d, d, api.OK)
	expectNarrow(t, con(api.LinNe, 11, 2, 1), d, without(ranges(0, 1, 5, 6)), api.OK)
	expectNarrow(t, con(api.LinNe, 12, 2, 1), d, d, api.OK)
	expectNarrow(t, con(api.LinNe, -11, -2, -1), d, without(ranges(0, 1, 5, 6)), api.OK)
	expectNarrow(t, con(api.LinNe, -12, -2, -1), d, d, api.OK)
	expectNarrow(t, con(api.LinNe, -1, -2, 1), d, d, api.OK)
	expectNarrow(t, con(api.LinNe, 2, -1, 1), d, without(ranges(0, 0, 4, 6)), api.OK)
	expectNarrow(t, con(api.LinNe, 1, -2, 1), d, without(ranges(0, 0, 4, 6)), api.OK)
	expectNarrow(t, con(api.LinNe, most, -1, 0), d, d, api.OK)
	expectNarrow(t, con(api.LinNe, 1, most, 0), d, d, api.OK)
	two := []list{ranges(7, 7, 9, 9)}
	expectNarrow(t, con(api.LinNe, 7, 1), two, []list{ranges(9, 9)}, api.OK)
	expectNarrow(t, con(api.LinNe, 9, 1), two, []list{ranges(7, 7)}, api.OK)
}

// P12.1: LinNe with two open positions, of two variables or of one, takes nothing.
func TestNotEqualTwoOpen(t *testing.T) {
	d := []list{ranges(0, 1), ranges(0, 1), ranges(3, 3)}
	for c := int64(-10); c <= 10; c++ {
		for _, x := range [][]int{{0, 1}, {1, 0}, {0, 0}, {0, 2, 0}, {2, 0, 1}, {0, 0, 0}, {0, 1, 2, 1}} {
			eachRow(len(x), -2, 2, func(a []int64) {
				expectJudged(t, on(x, api.LinNe, c, a...), d)
			})
			expectNarrow(t, on(x, api.LinNe, c, []int64{1, 1, 1, 1}[:len(x)]...), d, d, api.OK)
		}
		// The sum of both is always 0, but the positions are open.
		expectNarrow(t, on([]int{0, 0}, api.LinNe, c, 1, -1), d, d, api.OK)
	}
}

// P12.1: the sum of no numbers is 0; no variable loses anything, and there may be none.
func TestNoX(t *testing.T) {
	for _, d := range [][]list{nil, {}, {ranges(1, 2, 4, 4)}, {ranges(0, 1), ranges(-most, most)}} {
		for _, c := range []int64{-most, -1, 0, 1, most} {
			for kind, holds := range map[int]bool{api.LinEq: c == 0, api.LinLe: c >= 0, api.LinNe: c != 0} {
				if holds {
					expectNarrow(t, con(kind, c), d, d, api.OK)
				} else {
					expectNarrow(t, con(kind, c), d, nil, api.ErrFail)
				}
			}
		}
	}
}
