package arith_test

import (
	"slices"
	"testing"

	"touchstone/api"
)

// The domains that have all values, and those of the greatest and the least one.
func all() list { return ranges(-most, most) }
func top() list { return one(most) }
func low() list { return one(-most) }

// P14.1: products of the greatest and least values, which are greater than any value.
func TestGreatestProducts(t *testing.T) {
	notZero, above := ranges(-most, -1, 1, most), ranges(1, most)
	expectRows(t, con(api.Times), []row{
		{[]list{all(), all(), all()}, []list{all(), all(), all()}},
		{[]list{all(), one(1), all()}, []list{all(), one(1), all()}},
		{[]list{all(), all(), top()}, []list{notZero, notZero, top()}},
		{[]list{top(), all(), all()}, []list{top(), ranges(-1, 1), all()}},
		{[]list{all(), low(), all()}, []list{ranges(-1, 1), low(), all()}},
		{[]list{top(), above, all()}, []list{top(), one(1), top()}},
		{[]list{low(), above, all()}, []list{low(), one(1), low()}},
		{[]list{above, one(-1), all()}, []list{above, one(-1), ranges(-most, -1)}},
		{[]list{all(), one(1), low()}, []list{low(), one(1), low()}},
		{[]list{all(), low(), low()}, []list{one(1), low(), low()}},
		{[]list{all(), low(), top()}, []list{one(-1), low(), top()}},
		{[]list{ranges(1023, most), ranges(1024, most), all()}, []list{ranges(1023, 1024), ranges(1024, 1025), ranges(1023*1024, most)}},
		{[]list{ranges(1024, most), ranges(1024, most), all()}, []list{one(1024), one(1024), top()}},
		{[]list{ranges(1024, most), ranges(1025, most), all()}, nil},
		{[]list{all(), top(), one(most - 1)}, nil},
		{[]list{top(), top(), all()}, nil},
		{[]list{low(), low(), all()}, nil},
		{[]list{low(), top(), all()}, nil},
		// In 32 bits these products would be 0, -1 and the least value.
		{[]list{one(65536), one(65536), ranges(-9, 9)}, nil},
		{[]list{one(65537), one(65535), ranges(-9, 9)}, nil},
		{[]list{top(), one(4095), all()}, nil},
	})
}

// P14.1: the other Kinds with the greatest and least values.
func TestGreatestValues(t *testing.T) {
	expectRows(t, con(api.Min), []row{
		{[]list{all(), all(), all()}, []list{all(), all(), all()}},
		{[]list{top(), low(), all()}, []list{top(), low(), low()}},
		{[]list{top(), all(), all()}, []list{top(), all(), all()}},
		{[]list{all(), all(), top()}, []list{top(), top(), top()}},
		{[]list{top(), all(), low()}, []list{top(), low(), low()}},
		{[]list{all(), top(), ranges(-most, most-1)}, []list{ranges(-most, most-1), top(), ranges(-most, most-1)}},
		{[]list{top(), top(), ranges(-most, most-1)}, nil},
	})
	expectRows(t, con(api.Max), []row{
		{[]list{all(), all(), all()}, []list{all(), all(), all()}},
		{[]list{top(), low(), all()}, []list{top(), low(), top()}},
		{[]list{low(), all(), all()}, []list{low(), all(), all()}},
		{[]list{all(), all(), low()}, []list{low(), low(), low()}},
		{[]list{low(), all(), top()}, []list{low(), top(), top()}},
		{[]list{all(), low(), ranges(1-most, most)}, []list{ranges(1-most, most), low(), ranges(1-most, most)}},
		{[]list{low(), low(), ranges(1-most, most)}, nil},
	})
	expectRows(t, con(api.Abs), []row{
		{[]list{all(), all()}, []list{all(), ranges(0, most)}},
		{[]list{low(), all()}, []list{low(), top()}},
		{[]list{top(), all()}, []list{top(), top()}},
		{[]list{all(), top()}, []list{ranges(-most, -most, most, most), top()}},
		{[]list{ranges(1-most, most), top()}, []list{top(), top()}},
		{[]list{ranges(-most, 9), all()}, []list{ranges(-most, 9), ranges(0, most)}},
		{[]list{ranges(1-most, most-1), top()}, nil},
		{[]list{all(), ranges(-most, -1)}, nil},
	})
	expectRows(t, con(api.Same), []row{
		{[]list{all(), all()}, []list{all(), all()}},
		{[]list{all(), low()}, []list{low(), low()}},
		{[]list{ranges(-most, -most, most, most), ranges(1-most, most)}, []list{top(), top()}},
		{[]list{low(), top()}, nil},
	})
}

// P14.1: as many variables as there may be.
func TestManyVariables(t *testing.T) {
	d := slices.Repeat([]list{ranges(-9, 9)}, 64)
	for _, kind := range kinds() {
		for _, x := range [][]int{{61, 62, 63}, {63, 0, 31}, {63, 63, 63}} {
			c := on(kind, x[:count(kind)]...)
			expectJudged(t, c, d)
			narrow := slices.Clone(d)
			narrow[63] = ranges(3, 4)
			expectJudged(t, c, narrow)
			expectNarrow(t, c, append(narrow, ranges(-9, 9)), nil, api.ErrArg)
		}
	}
}

// P14.1: domains of more ranges than a text can give them.
func TestManyRanges(t *testing.T) {
	var odd, even, sixth list
	for v := int64(-9999); v <= 9999; v += 2 {
		odd = append(odd, api.Range{Lo: v, Hi: v})
		even = append(even, api.Range{Lo: v + 1, Hi: v + 1})
	}
	for v := int64(-9999); v <= 9999; v += 6 {
		sixth = append(sixth, api.Range{Lo: v - 1, Hi: v})
	}
	wide := ranges(-20000, 20000)
	expectRows(t, con(api.Times), []row{
		{[]list{odd, one(1), odd}, []list{odd, one(1), odd}},
		{[]list{odd, one(-3), ranges(-50, -9)}, []list{odd[5001:5008], one(-3), ranges(-50, -9)}},
		{[]list{even, odd, odd}, []list{slices.Concat(even[:4999], even[5000:]), odd, odd}},
	})
	expectRows(t, con(api.Min), []row{{[]list{odd, even, wide}, []list{odd, even, ranges(-9999, 9999)}}})
	expectRows(t, con(api.Max), []row{{[]list{odd, even, wide}, []list{odd, even, ranges(-9998, 10000)}}})
	expectRows(t, con(api.Abs), []row{{[]list{odd, ranges(4, 9)}, []list{slices.Concat(odd[4995:4998], odd[5002:5005]), ranges(4, 9)}}})
	expectRows(t, con(api.Same), []row{{[]list{odd, even}, nil}, {[]list{even, odd}, nil}})
	expectJudged(t, con(api.Same), []list{odd, sixth})
	expectJudged(t, con(api.Same), []list{sixth, even})
	for _, kind := range kinds() {
		d := []list{odd, even, sixth}[:count(kind)]
		expectJudged(t, con(kind), d)
	}
}
