package reify_test

import (
	"slices"
	"testing"

	"touchstone/api"
)

// P13.1: the greatest C. With the flag 0 the sum turned round is bounded by a number that is no C any more.
func TestGreatestC(t *testing.T) {
	d := ranges(-most, most)
	for _, row := range []struct {
		a         int64
		cut, rest list
	}{
		{2, ranges(most/2+1, most), ranges(-most, most/2)},
		{-2, ranges(-most, -most/2-1), ranges(-most/2, most)},
		{3, ranges(349526, most), ranges(-most, 349525)},
		{most, ranges(2, most), ranges(-most, 1)},
		{-most, ranges(-most, -2), ranges(-1, most)},
	} {
		for _, kind := range kinds() {
			expectNarrow(t, con(kind, most, row.a), with(maybe(), d), with(maybe(), d), api.OK)
		}
		expectNarrow(t, con(api.LinLeReif, most, row.a), with(no(), d), with(no(), row.cut), api.OK)
		expectNarrow(t, con(api.LinLeReif, most, row.a), with(yes(), d), with(yes(), row.rest), api.OK)
		expectNarrow(t, con(api.LinLeReif, most, row.a), with(maybe(), row.cut), with(no(), row.cut), api.OK)
		expectNarrow(t, con(api.LinLeReif, most, row.a), with(maybe(), row.rest), with(yes(), row.rest), api.OK)
		expectNarrow(t, con(api.LinLeReif, most, row.a), with(yes(), row.cut), nil, api.ErrFail)
		expectNarrow(t, con(api.LinLeReif, most, row.a), with(no(), row.rest), nil, api.ErrFail)
		expectNarrow(t, con(api.LinLeImp, most, row.a), with(yes(), d), with(yes(), row.rest), api.OK)
		expectNarrow(t, con(api.LinLeImp, most, row.a), with(no(), d), with(no(), d), api.OK)
	}
	expectNarrow(t, con(api.LinLeReif, most, 1), with(no(), d), nil, api.ErrFail)
	expectNarrow(t, con(api.LinLeReif, most, 1), with(maybe(), d), with(yes(), d), api.OK)
	expectNarrow(t, con(api.LinLeReif, most-1, 1), with(no(), d), with(no(), ranges(most, most)), api.OK)
	// The flag in the sum, too, beside a sum that is not cut by it.
	expectNarrow(t, on([]int{1, 0, 1}, api.LinLeReif, most, most, 2), with(no(), d), with(no(), ranges(most/2+1, most)), api.OK)
	expectNarrow(t, on([]int{1, 0, 1}, api.LinLeReif, most, -most, 1), with(no(), d), nil, api.ErrFail)
}

// P13.1: the least C.
func TestLeastC(t *testing.T) {
	d := ranges(-most, most)
	expectNarrow(t, con(api.LinLeReif, -most, 1), with(yes(), d), with(yes(), ranges(-most, -most)), api.OK)
	expectNarrow(t, con(api.LinLeReif, -most, 1), with(no(), d), with(no(), ranges(-most+1, most)), api.OK)
	expectNarrow(t, con(api.LinLeReif, -most, 2), with(yes(), d), with(yes(), ranges(-most, -most/2)), api.OK)
	expectNarrow(t, con(api.LinLeReif, -most, 2), with(no(), d), with(no(), ranges(-most/2+1, most)), api.OK)
	expectNarrow(t, con(api.LinLeReif, -most, 1), with(maybe(), ranges(-most+1, most)), with(no(), ranges(-most+1, most)), api.OK)
	expectNarrow(t, con(api.LinLeImp, -most, 1), with(yes(), d), with(yes(), ranges(-most, -most)), api.OK)
	expectNarrow(t, con(api.LinLeImp, -most, 1), with(maybe(), d), with(maybe(), d), api.OK)
	expectNarrow(t, con(api.LinEqReif, -most, most), with(yes(), d), with(yes(), ranges(-1, -1)), api.OK)
	expectNarrow(t, con(api.LinEqReif, -most, most), with(no(), d), with(no(), ranges(-most, -2, 0, most)), api.OK)
	expectNarrow(t, con(api.LinEqReif, -most, 1), with(yes(), d), with(yes(), ranges(-most, -most)), api.OK)
	expectNarrow(t, con(api.LinEqReif, -most, 1), with(no(), d), with(no(), ranges(-most+1, most)), api.OK)
	expectNarrow(t, con(api.LinEqReif, most, 1), with(no(), d), with(no(), ranges(-most, most-1)), api.OK)
}

// P13.1: sums that would be C, or on its other side, in 32 bits.
func TestGreatSums(t *testing.T) {
	great := ranges(65536, 65536)
	expectNarrow(t, con(api.LinEqReif, 0, 65536), with(maybe(), great), with(no(), great), api.OK)
	expectNarrow(t, con(api.LinEqReif, 0, 65536), with(no(), great), with(no(), great), api.OK)
	expectNarrow(t, con(api.LinEqReif, 0, 65536), with(yes(), great), nil, api.ErrFail)
	for _, kind := range []int{api.LinLeReif, api.LinLeImp} {
		expectNarrow(t, con(kind, 0, 65536), with(maybe(), great), with(no(), great), api.OK)
		expectNarrow(t, con(kind, 0, 32768), with(maybe(), great), with(no(), great), api.OK)
		expectNarrow(t, con(kind, 0, 65536), with(yes(), great), nil, api.ErrFail)
	}
	expectNarrow(t, con(api.LinLeReif, -1, -32769), with(maybe(), great), with(yes(), great), api.OK)
}

// P13.1: as many variables as there may be, all of them in the sum or every other one, with the greatest numbers.
func TestManyX(t *testing.T) {
	d := append(slices.Repeat([]list{ranges(-most, most)}, 63), maybe())
	numbers := append(slices.Repeat([]int64{most, -most}, 15), most)
	c := con(0, 0, numbers...)
	for i := range c.X {
		c.X[i] = 2 * i
	}
	c.X[31] = 63
	for _, c.Kind = range kinds() {
		for _, c.C = range []int64{-most, 0, most} {
			for _, d[63] = range flags() {
				expectNarrow(t, c, d, d, api.OK)
			}
		}
	}
	// All but one have a single value: with their sum of 0 the last one is cut by C alone.
	tight := slices.Clone(d)
	for _, x := range c.X[:30] {
		tight[x] = ranges(most, most)
	}
	expectLast := func(kind int, n int64, flag, domain list) {
		t.Helper()
		c.Kind, c.C = kind, n
		tight[63] = flag
		want := slices.Clone(tight)
		want[60] = domain
		expectNarrow(t, c, tight, want, api.OK)
	}
	expectLast(api.LinLeReif, most, no(), ranges(2, most))
	expectLast(api.LinLeReif, most, yes(), ranges(-most, 1))
	expectLast(api.LinLeReif, -most, no(), ranges(0, most))
	expectLast(api.LinLeReif, -most, yes(), ranges(-most, -1))
	expectLast(api.LinLeImp, -most, yes(), ranges(-most, -1))
	expectLast(api.LinLeImp, -most, no(), ranges(-most, most))
	expectLast(api.LinEqReif, most, yes(), ranges(1, 1))
	expectLast(api.LinEqReif, most, no(), ranges(-most, 0, 2, most))
	expectLast(api.LinEqReif, -most, no(), ranges(-most, -2, 0, most))
}

// P13.1: the flag stands at all places of as many X as there may be.
func TestManyFlags(t *testing.T) {
	c := on(make([]int, 32), 0, 0, slices.Repeat([]int64{most}, 31)...)
	for _, c.Kind = range kinds() {
		for _, c.C = range []int64{-most, -1, 0, 1, most} {
			for _, flag := range flags() {
				expectJudged(t, c, []list{flag})
				expectJudged(t, c, with(ranges(3, 4), flag))
			}
		}
	}
}

// P13.1: domains of more ranges than a text can give them.
func TestManyRanges(t *testing.T) {
	var odd, low, high list
	for v := int64(-9999); v <= 9999; v += 2 {
		odd = append(odd, api.Range{Lo: v, Hi: v})
		if v <= 1 {
			low = append(low, api.Range{Lo: v, Hi: v})
		} else {
			high = append(high, api.Range{Lo: v, Hi: v})
		}
	}
	expectNarrow(t, con(api.LinLeReif, 6, 3, 0), with(yes(), odd, odd), with(yes(), low, odd), api.OK)
	expectNarrow(t, con(api.LinLeReif, 6, 3, 0), with(no(), odd, odd), with(no(), high, odd), api.OK)
	expectNarrow(t, con(api.LinLeImp, 6, 3, 0), with(yes(), odd, odd), with(yes(), low, odd), api.OK)
	expectNarrow(t, con(api.LinEqReif, 6, 3, 0), with(no(), odd, odd), with(no(), odd, odd), api.OK)
	expectNarrow(t, con(api.LinEqReif, -9999, 0, 1), with(no(), odd, odd), with(no(), odd, odd[1:]), api.OK)
	expectNarrow(t, con(api.LinEqReif, 6, 3, 0), with(maybe(), odd, odd), with(maybe(), odd, odd), api.OK)
}
