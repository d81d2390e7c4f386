package linear_test

import (
	"slices"
	"testing"

	"touchstone/api"
)

// P12.1: the greatest numbers and values, where a sum of products needs more than 32 bits.
func TestGreatNumbers(t *testing.T) {
	all := ranges(-most, most)
	d := []list{all, all}
	for _, sign := range []int64{1, -1} {
		expectNarrow(t, con(api.LinLe, 0, sign*most, sign*most), d, d, api.OK)
		expectNarrow(t, con(api.LinLe, sign*most, most), d, []list{ranges(-most, sign), all}, api.OK)
		expectNarrow(t, con(api.LinLe, sign*most, -most), d, []list{ranges(-sign, most), all}, api.OK)
		expectNarrow(t, con(api.LinEq, sign*most, most), d, []list{ranges(sign, sign), all}, api.OK)
		expectNarrow(t, con(api.LinEq, sign*most, most, -1), d, []list{ranges(min(sign-1, 0), max(0, sign+1)), all}, api.OK)
		expectNarrow(t, con(api.LinNe, sign*most, -most, 0), d, []list{ranges(-most, -sign-1, -sign+1, most), all}, api.OK)
		expectNarrow(t, con(api.LinNe, 0, sign*most), d, []list{ranges(-most, -1, 1, most), all}, api.OK)
	}
	fixed := []list{ranges(most, most), all}
	expectNarrow(t, con(api.LinEq, most, most, -most), fixed, []list{fixed[0], ranges(most-1, most-1)}, api.OK)
	expectNarrow(t, con(api.LinEq, -most, most, -most), fixed, nil, api.ErrFail)
	expectNarrow(t, con(api.LinNe, most, most, -most), fixed, []list{fixed[0], ranges(-most, most-2, most, most)}, api.OK)
	expectNarrow(t, con(api.LinNe, -most, most, -most), fixed, fixed, api.OK)
	expectNarrow(t, con(api.LinNe, 0, most, most), fixed, []list{fixed[0], ranges(-most+1, most)}, api.OK)
	// The sum would be C in 32 bits.
	expectNarrow(t, con(api.LinEq, 0, 65536), []list{ranges(65536, 65536)}, nil, api.ErrFail)
	expectNarrow(t, con(api.LinLe, 0, 65536), []list{ranges(65536, 65536)}, nil, api.ErrFail)
	expectNarrow(t, con(api.LinNe, 0, 65536), []list{ranges(65536, 65536)}, []list{ranges(65536, 65536)}, api.OK)
}

// P12.1: as many X as there may be, with the greatest numbers.
func TestManyX(t *testing.T) {
	d := slices.Repeat([]list{ranges(-most, most)}, 64)
	numbers := slices.Repeat([]int64{most}, 32)
	c := con(api.LinLe, -most, numbers...)
	for i := range c.X {
		c.X[i] = 2 * i
	}
	expectNarrow(t, c, d, d, api.OK)
	c.Kind = api.LinEq
	expectNarrow(t, c, d, d, api.OK)
	// All but one are at their ends: the last one has what is left.
	tight := slices.Clone(d)
	for _, x := range c.X[:31] {
		tight[x] = ranges(most, most)
	}
	c.A = append(slices.Repeat([]int64{most, -most}, 15), most, most)
	want := slices.Clone(tight)
	want[62] = ranges(-most, -most)
	c.C = 0
	expectNarrow(t, c, tight, want, api.OK)
	c.C = most
	want[62] = ranges(-most+1, -most+1)
	expectNarrow(t, c, tight, want, api.OK)
	c.C = -most
	expectNarrow(t, c, tight, nil, api.ErrFail)
	c.Kind, c.C = api.LinLe, most
	want[62] = ranges(-most, -most+1)
	expectNarrow(t, c, tight, want, api.OK)
	c.Kind = api.LinNe
	want[62] = ranges(-most, -most, -most+2, most)
	expectNarrow(t, c, tight, want, api.OK)
}

// P12.1: domains of more ranges than a text can give them.
func TestManyRanges(t *testing.T) {
	var odd, low, high list
	for v := int64(-9999); v <= 9999; v += 2 {
		odd = append(odd, api.Range{Lo: v, Hi: v})
		if v <= 1 {
			low = append(low, api.Range{Lo: v, Hi: v})
		}
		if v >= -1 {
			high = append(high, api.Range{Lo: v, Hi: v})
		}
	}
	expectNarrow(t, con(api.LinLe, 6, 3, 0), []list{odd, odd}, []list{low, odd}, api.OK)
	expectNarrow(t, con(api.LinLe, 6, -3, 0), []list{odd, odd}, []list{high, odd}, api.OK)
	expectNarrow(t, con(api.LinNe, 6, 3, 0), []list{odd, odd}, []list{odd, odd}, api.OK)
	expectNarrow(t, con(api.LinNe, -9999, 0, 1), []list{odd, odd}, []list{odd, odd[1:]}, api.OK)
}
