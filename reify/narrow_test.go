package reify_test

import (
	"testing"

	"touchstone/api"
)

// with are domains of some variables and the flag.
func with(flag list, d ...list) []list {
	return append(d[:len(d):len(d)], flag)
}

// P13.1: the chapter's examples.
func TestExamples(t *testing.T) {
	wide := ranges(0, 9)
	expectNarrow(t, con(api.LinLeReif, 3, 1), with(yes(), wide), with(yes(), ranges(0, 3)), api.OK)
	expectNarrow(t, con(api.LinLeReif, 3, 1), with(no(), wide), with(no(), ranges(4, 9)), api.OK)
	expectNarrow(t, con(api.LinLeReif, 3, 1), with(maybe(), ranges(0, 2)), with(yes(), ranges(0, 2)), api.OK)
	expectNarrow(t, con(api.LinEqReif, 3, 1), with(maybe(), ranges(4, 9)), with(no(), ranges(4, 9)), api.OK)
	expectNarrow(t, con(api.LinLeImp, 3, 1), with(maybe(), ranges(5, 9)), with(no(), ranges(5, 9)), api.OK)
}

// P13.1: all small domains of two variables and a flag, with all small numbers, at two places and at one.
func TestSmall(t *testing.T) {
	domains := domainsFrom(-1, 3)
	for _, kind := range kinds() {
		eachRow(2, -2, 2, func(a []int64) {
			for c := int64(-5); c <= 5; c++ {
				for _, flag := range flags() {
					for _, first := range domains {
						expectJudged(t, on([]int{0, 0, 1}, kind, c, a...), with(flag, first))
						for _, second := range domains {
							expectJudged(t, con(kind, c, a...), with(flag, first, second))
						}
					}
				}
			}
		})
	}
}

// P13.1: one number and one variable, of a domain with holes, for each C around it.
func TestOneNumber(t *testing.T) {
	domains := append(domainsFrom(-3, 5), ranges(-9, -6, -2, 0, 3, 3, 7, 9), ranges(-9, 9))
	for _, kind := range kinds() {
		for a := int64(-4); a <= 4; a++ {
			for c := int64(-40); c <= 40; c++ {
				for _, d := range domains {
					for _, flag := range flags() {
						expectJudged(t, con(kind, c, a), with(flag, d))
					}
				}
			}
		}
	}
}

// P13.1: the flag is the last of X, whichever variable that is, and the other variables keep what they have.
func TestPlaceOfFlag(t *testing.T) {
	d := []list{maybe(), ranges(0, 9), maybe(), ranges(-2, 1, 5, 5), maybe()}
	for _, flag := range []int{0, 2, 4} {
		decided := append([]list{}, d...)
		decided[flag] = yes()
		expectNarrow(t, on([]int{3, flag}, api.LinLeReif, 5, 1), d, decided, api.OK)
		decided[flag] = no()
		expectNarrow(t, on([]int{3, flag}, api.LinLeReif, -3, 1), d, decided, api.OK)
		expectNarrow(t, on([]int{3, flag}, api.LinLeImp, -3, 1), d, decided, api.OK)
		expectNarrow(t, on([]int{1, 3, flag}, api.LinEqReif, 15, 1, 1), d, decided, api.OK)
		decided[1] = ranges(5, 9)
		given := append([]list{}, d...)
		given[flag] = no()
		expectNarrow(t, on([]int{1, flag}, api.LinLeReif, 4, 1), given, decided, api.OK)
		expectNarrow(t, on([]int{3, flag}, api.LinLeImp, -3, 1), given, given, api.OK)
	}
}

// P13.1: LinLeImp and LinLeReif where the least and the greatest sum are one below, at and one above C.
func TestAtMostAtEnds(t *testing.T) {
	d := []list{ranges(2, 4), ranges(-3, 7, 10, 11)}
	for _, row := range []struct{ a, b, lo, hi int64 }{
		{1, 1, -1, 15}, {1, -1, -9, 7}, {-1, 1, -7, 9}, {-1, -1, -15, 1}, {3, 0, 6, 12}, {0, -2, -22, 6}, {5, -4, -34, 32},
	} {
		flagFor := func(kind int, c int64, flag list) {
			expectNarrow(t, con(kind, c, row.a, row.b), with(maybe(), d...), with(flag, d...), api.OK)
		}
		flagFor(api.LinLeImp, row.lo-1, no())
		flagFor(api.LinLeImp, row.lo, maybe())
		flagFor(api.LinLeImp, row.hi, maybe())
		flagFor(api.LinLeImp, row.hi+1, maybe())
		flagFor(api.LinLeReif, row.lo-1, no())
		flagFor(api.LinLeReif, row.lo, maybe())
		flagFor(api.LinLeReif, row.hi-1, maybe())
		flagFor(api.LinLeReif, row.hi, yes())
		flagFor(api.LinLeReif, row.hi+1, yes())
		flagFor(api.LinEqReif, row.lo-1, no())
		flagFor(api.LinEqReif, row.lo, maybe())
		flagFor(api.LinEqReif, row.hi, maybe())
		flagFor(api.LinEqReif, row.hi+1, no())
		// Within its ends a sum may leave C out, but no other than its ends are asked.
		flagFor(api.LinEqReif, row.lo+1, maybe())
	}
}

// P13.1: where the flag is known and can't be right, it fails; where it is right, nothing is lost.
func TestKnownFlag(t *testing.T) {
	d := []list{ranges(2, 4), ranges(0, 5)}
	for _, row := range []struct {
		kind      int
		c         int64
		flag      list
		narrowed  list
		wantErrno api.Errno
	}{
		{api.LinLeReif, 1, yes(), nil, api.ErrFail},
		{api.LinLeReif, 2, yes(), ranges(2, 2), api.OK},
		{api.LinLeReif, 3, yes(), ranges(2, 3), api.OK},
		{api.LinLeReif, 4, yes(), ranges(2, 4), api.OK},
		{api.LinLeReif, 1, no(), ranges(2, 4), api.OK},
		{api.LinLeReif, 2, no(), ranges(3, 4), api.OK},
		{api.LinLeReif, 3, no(), ranges(4, 4), api.OK},
		{api.LinLeReif, 4, no(), nil, api.ErrFail},
		{api.LinLeImp, 1, yes(), nil, api.ErrFail},
		{api.LinLeImp, 2, yes(), ranges(2, 2), api.OK},
		{api.LinLeImp, 4, yes(), ranges(2, 4), api.OK},
		{api.LinLeImp, 1, no(), ranges(2, 4), api.OK},
		{api.LinLeImp, 2, no(), ranges(2, 4), api.OK},
		{api.LinLeImp, 4, no(), ranges(2, 4), api.OK},
		{api.LinEqReif, 1, yes(), nil, api.ErrFail},
		{api.LinEqReif, 2, yes(), ranges(2, 2), api.OK},
		{api.LinEqReif, 3, yes(), ranges(3, 3), api.OK},
		{api.LinEqReif, 5, yes(), nil, api.ErrFail},
		{api.LinEqReif, 1, no(), ranges(2, 4), api.OK},
		{api.LinEqReif, 2, no(), ranges(3, 4), api.OK},
		{api.LinEqReif, 3, no(), ranges(2, 2, 4, 4), api.OK},
		{api.LinEqReif, 5, no(), ranges(2, 4), api.OK},
	} {
		var want []list
		if row.wantErrno == api.OK {
			want = with(row.flag, row.narrowed, d[1])
		}
		expectNarrow(t, con(row.kind, row.c, 1, 0), with(row.flag, d...), want, row.wantErrno)
	}
}

// P13.1: LinEqReif with the flag 0 fails only where the sum has a single value, and takes nothing where two are open.
func TestNotEqual(t *testing.T) {
	fixed := []list{ranges(3, 3), ranges(-2, -2)}
	for c := int64(-9); c <= 9; c++ {
		if c == 1 {
			expectNarrow(t, con(api.LinEqReif, c, 1, 1), with(no(), fixed...), nil, api.ErrFail)
		} else {
			expectNarrow(t, con(api.LinEqReif, c, 1, 1), with(no(), fixed...), with(no(), fixed...), api.OK)
		}
		open := with(no(), ranges(0, 3), ranges(0, 3))
		expectNarrow(t, con(api.LinEqReif, c, 1, -1), open, open, api.OK)
		expectNarrow(t, on([]int{0, 0, 2}, api.LinEqReif, c, 1, -1), open, open, api.OK)
	}
	expectNarrow(t, con(api.LinEqReif, 0, 0, 0), with(no(), ranges(0, 3), ranges(0, 3)), nil, api.ErrFail)
	expectNarrow(t, con(api.LinEqReif, 5, 1, 2), with(no(), ranges(1, 1), ranges(0, 3)), with(no(), ranges(1, 1), ranges(0, 1, 3, 3)), api.OK)
	expectNarrow(t, con(api.LinEqReif, 4, 1, 2), with(no(), ranges(1, 1), ranges(0, 3)), with(no(), ranges(1, 1), ranges(0, 3)), api.OK)
}

// P13.1: LinEqReif with the flag 1 takes the domains of its first bound for its second one.
func TestEqual(t *testing.T) {
	d := with(yes(), ranges(0, 9), ranges(0, 9))
	expectNarrow(t, con(api.LinEqReif, 9, 2, 1), d, with(yes(), ranges(0, 4), ranges(1, 9)), api.OK)
	expectNarrow(t, con(api.LinEqReif, -9, -2, -1), d, with(yes(), ranges(0, 4), ranges(0, 9)), api.OK)
	gap := with(yes(), ranges(0, 0, 9, 9), ranges(0, 0, 9, 9))
	expectNarrow(t, con(api.LinEqReif, 5, 1, 1), gap, nil, api.ErrFail)
	// Of a flag that is open only the ends of the sum are asked.
	gap[2] = maybe()
	expectNarrow(t, con(api.LinEqReif, 5, 1, 1), gap, gap, api.OK)
}

// P13.1: a variable that stands in two places is cut at both, with the ends that it had.
func TestOneVariableTwice(t *testing.T) {
	twice := []int{0, 0, 1}
	d := ranges(0, 5)
	expectNarrow(t, on(twice, api.LinLeReif, 3, 1, 1), with(yes(), d), with(yes(), ranges(0, 3)), api.OK)
	expectNarrow(t, on(twice, api.LinLeReif, 7, 1, 1), with(no(), d), with(no(), ranges(3, 5)), api.OK)
	expectNarrow(t, on(twice, api.LinLeReif, 1, 1, -1), with(no(), d), with(no(), ranges(2, 3)), api.OK)
	expectNarrow(t, on(twice, api.LinLeReif, 2, 1, -1), with(no(), d), nil, api.ErrFail)
	// The sum is always 0, but its ends are -5 and 5.
	expectNarrow(t, on(twice, api.LinLeReif, 0, 1, -1), with(maybe(), d), with(maybe(), d), api.OK)
	expectNarrow(t, on(twice, api.LinEqReif, 0, 1, -1), with(maybe(), d), with(maybe(), d), api.OK)
	expectNarrow(t, on(twice, api.LinEqReif, 6, 1, -1), with(maybe(), d), with(no(), d), api.OK)
	expectNarrow(t, on(twice, api.LinLeImp, -5, 1, -1), with(maybe(), d), with(maybe(), d), api.OK)
	expectNarrow(t, on(twice, api.LinLeImp, -6, 1, -1), with(maybe(), d), with(no(), d), api.OK)
}

// P13.1: the flag stands in the sum, too, alone or beside others.
func TestFlagInSum(t *testing.T) {
	for _, kind := range kinds() {
		for _, flag := range flags() {
			for c := int64(-9); c <= 9; c++ {
				eachRow(2, -3, 3, func(a []int64) {
					expectJudged(t, on([]int{0, 0}, kind, c, a[0]), []list{flag})
					expectJudged(t, on([]int{0, 0, 0}, kind, c, a...), []list{flag})
					for _, other := range []list{maybe(), ranges(-2, 3), ranges(-1, -1, 2, 2)} {
						expectJudged(t, on([]int{0, 1, 0}, kind, c, a...), []list{flag, other})
						expectJudged(t, on([]int{1, 0, 0}, kind, c, a...), []list{flag, other})
						expectJudged(t, on([]int{1, 0, 1, 0}, kind, c, append(a, 2)...), []list{flag, other})
					}
				})
			}
		}
	}
	expectNarrow(t, on([]int{0, 1, 0}, api.LinLeReif, 3, 5, 1), with(ranges(0, 9), no()), with(ranges(4, 9), no()), api.OK)
	expectNarrow(t, on([]int{0, 1, 0}, api.LinLeReif, 3, 2, 1), with(ranges(0, 9), yes()), with(ranges(0, 1), yes()), api.OK)
	// By its ends the sum may be below C and above it.
	expectNarrow(t, on([]int{0, 0}, api.LinLeReif, 0, 1), []list{maybe()}, []list{maybe()}, api.OK)
}

// P13.1: the sum of no numbers is 0; the flag stands alone, or behind a variable that keeps what it has.
func TestNoNumbers(t *testing.T) {
	for _, others := range [][]list{nil, {ranges(3, 5, 7, 7)}} {
		open, right, wrong := with(maybe(), others...), with(yes(), others...), with(no(), others...)
		for _, n := range []int64{-most, -1, 0, 1, most} {
			for _, kind := range kinds() {
				c := on([]int{len(others)}, kind, n)
				switch {
				case n < 0 || n > 0 && kind == api.LinEqReif:
					expectNarrow(t, c, open, wrong, api.OK)
					expectNarrow(t, c, right, nil, api.ErrFail)
					expectNarrow(t, c, wrong, wrong, api.OK)
				case kind == api.LinLeImp:
					expectNarrow(t, c, open, open, api.OK)
					expectNarrow(t, c, right, right, api.OK)
					expectNarrow(t, c, wrong, wrong, api.OK)
				default:
					expectNarrow(t, c, open, right, api.OK)
					expectNarrow(t, c, right, right, api.OK)
					expectNarrow(t, c, wrong, nil, api.ErrFail)
				}
			}
		}
	}
}
