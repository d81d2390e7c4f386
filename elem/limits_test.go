package elem_test

import (
	"slices"
	"testing"

	"touchstone/api"
)

// all is the domain that has all values.
func all() list { return ranges(-most, most) }

// numbers are n of them, from first on.
func numbers(first int64, n int) []int64 {
	var a []int64
	for i := range n {
		a = append(a, first+int64(i))
	}
	return a
}

// P16.1: as many numbers in a table as there may be; the last one, the first one or one between counts.
func TestManyNumbers(t *testing.T) {
	for _, n := range []int{1, 2, 63, 64} {
		c := table(numbers(100, n)...)
		last := int64(n)
		expectRows(t, c, []row{
			{[]list{all(), all()}, []list{ranges(1, last), ranges(100, 99+last)}},
			{[]list{ranges(last, most), all()}, []list{one(last), one(99 + last)}},
			{[]list{all(), ranges(99+last, most)}, []list{one(last), one(99 + last)}},
			{[]list{ranges(-most, 1), all()}, []list{one(1), one(100)}},
			{[]list{ranges(last+1, most), all()}, nil},
			{[]list{all(), ranges(100+last, most)}, nil},
			{[]list{all(), ranges(-most, 99)}, nil},
		})
		for at := range n {
			k := int64(at) + 1
			a := slices.Repeat([]int64{3}, n)
			a[at] = 8
			expectNarrow(t, table(a...), []list{all(), ranges(4, 9)}, []list{one(k), one(8)}, api.OK)
			expectNarrow(t, table(a...), []list{one(k), all()}, []list{one(k), one(8)}, api.OK)
			expectJudged(t, table(a...), []list{ranges(0, 70), ranges(0, 3)})
			expectJudged(t, table(a...), []list{ranges(k, 70), ranges(0, 9)})
		}
	}
	for _, n := range []int{0, 65, 66, 128, 5000} {
		expectUnfit(t, table(slices.Repeat([]int64{3}, n)...), []list{ranges(1, 9), ranges(0, 9)})
	}
}

// P16.1: as many positions as there may be, of distinct variables and of few.
func TestManyPositions(t *testing.T) {
	for _, n := range []int{3, 4, 31, 32} {
		choices := n - 2
		c := among(places(n)...)
		for at := range choices {
			k := int64(at) + 1
			d := slices.Repeat([]list{ranges(1, 3)}, n)
			d[0], d[n-1], d[k] = ranges(-9, 99), ranges(3, 9), ranges(5, 6)
			expectJudged(t, c, d)
			d[0], d[n-1] = all(), ranges(4, 9)
			want := slices.Clone(d)
			want[0], want[n-1] = one(k), ranges(5, 6)
			expectNarrow(t, c, d, want, api.OK)
			d[n-1] = ranges(6, 9)
			want[k], want[n-1] = one(6), one(6)
			expectNarrow(t, c, d, want, api.OK)
			d[n-1] = ranges(7, 9)
			expectNarrow(t, c, d, nil, api.ErrFail)
		}
		d := slices.Repeat([]list{all()}, n)
		d[0] = ranges(int64(choices)+1, most)
		expectNarrow(t, c, d, nil, api.ErrFail)
		d[0] = one(int64(choices))
		expectNarrow(t, c, d, d, api.OK)
		expectJudged(t, among(make([]int, n)...), []list{ranges(0, 40)})
		expectJudged(t, among(make([]int, n)...), []list{ranges(int64(choices), 40)})
	}
	for _, n := range []int{33, 34, 64} {
		d := slices.Repeat([]list{ranges(1, 9)}, n)
		expectUnfit(t, among(places(n)...), d)
		expectUnfit(t, among(make([]int, n)...), d)
	}
}

// P16.1: the greatest and the least values there are.
func TestGreatestValues(t *testing.T) {
	expectRows(t, table(most, -most), []row{
		{[]list{all(), all()}, []list{ranges(1, 2), ranges(-most, -most, most, most)}},
		{[]list{all(), ranges(-most, most-1)}, []list{one(2), one(-most)}},
		{[]list{all(), ranges(1-most, most)}, []list{one(1), one(most)}},
		{[]list{all(), ranges(1-most, most-1)}, nil},
		{[]list{ranges(3, most), all()}, nil},
		{[]list{ranges(-most, 0), all()}, nil},
		{[]list{ranges(-most, 0, 3, most), all()}, nil},
		{[]list{one(most), all()}, nil},
		{[]list{one(-most), all()}, nil},
	})
	expectRows(t, among(0, 1, 2, 3), []row{
		{[]list{all(), all(), all(), all()}, []list{ranges(1, 2), all(), all(), all()}},
		{[]list{all(), one(most), one(-most), all()}, []list{ranges(1, 2), one(most), one(-most), ranges(-most, -most, most, most)}},
		{[]list{one(1), all(), all(), one(most)}, []list{one(1), one(most), all(), one(most)}},
		{[]list{one(2), all(), all(), one(-most)}, []list{one(2), all(), one(-most), one(-most)}},
		{[]list{all(), ranges(-most, 0), ranges(1, most), all()}, []list{ranges(1, 2), ranges(-most, 0), ranges(1, most), all()}},
		{[]list{all(), ranges(-most, most-1), all(), one(most)}, []list{one(2), ranges(-most, most-1), one(most), one(most)}},
		{[]list{ranges(-most, 0, 3, most), all(), all(), all()}, nil},
	})
	expectNarrow(t, tableOn(0, 0, most, 2), []list{all()}, []list{one(2)}, api.OK)
	expectNarrow(t, among(0, 0, 0), []list{all()}, []list{one(1)}, api.OK)
}

// P16.1: as many variables as there may be, the last of which are those that c names.
func TestManyVariables(t *testing.T) {
	others := slices.Repeat([]list{ranges(-9, 9)}, 60)
	expectMany := func(c api.Con, last, want []list) {
		t.Helper()
		expectNarrow(t, c, slices.Concat(others, last), slices.Concat(others, want), api.OK)
		expectUnfit(t, c, slices.Concat(others, last, others[:1]))
	}
	expectMany(tableOn(63, 60, 5, 7, 5), []list{ranges(6, 9), all(), all(), all()}, []list{one(7), all(), all(), one(2)})
	expectMany(tableOn(63, 63, 5, 2, 5), []list{all(), all(), all(), all()}, []list{all(), all(), all(), one(2)})
	expectMany(among(63, 61, 62, 60),
		[]list{ranges(2, 4), ranges(1, 2), ranges(4, 5), ranges(1, 2)}, []list{ranges(2, 2, 4, 4), ranges(1, 2), ranges(4, 5), ranges(1, 2)})
	expectMany(among(60, 63, 61, 62),
		[]list{ranges(-9, 1), ranges(1, 2), ranges(4, 9), ranges(2, 7)}, []list{one(1), ranges(1, 2), ranges(4, 7), ranges(4, 7)})
}

// P16.1: domains of more ranges than a text can give them.
func TestManyRanges(t *testing.T) {
	var odd, even, sixth list
	for v := int64(-9999); v <= 9999; v += 2 {
		odd = append(odd, one(v)...)
		even = append(even, one(v+1)...)
	}
	for v := int64(-9999); v <= 9999; v += 6 {
		sixth = append(sixth, ranges(v-1, v)...)
	}
	whole := ranges(-9999, 10000)
	expectRows(t, among(0, 1, 2, 3), []row{
		{[]list{all(), odd, even, all()}, []list{ranges(1, 2), odd, even, whole}},
		{[]list{all(), odd, even, odd}, []list{one(1), odd, even, odd}},
		{[]list{odd, odd, even, all()}, []list{one(1), odd, even, odd}},
		{[]list{even, odd, even, all()}, []list{one(2), odd, even, even}},
		{[]list{odd, odd, even, even}, nil},
	})
	expectRows(t, table(1, 2, 3, 5, 6), []row{
		{[]list{odd, all()}, []list{ranges(1, 1, 3, 3, 5, 5), ranges(1, 1, 3, 3, 6, 6)}},
		{[]list{all(), odd}, []list{ranges(1, 1, 3, 4), ranges(1, 1, 3, 3, 5, 5)}},
		{[]list{even, even}, []list{one(2), one(2)}},
	})
	for _, d := range [][]list{{odd, sixth, even, whole}, {whole, sixth, odd, even}, {even, odd, sixth, odd}, {whole, odd, sixth, sixth}} {
		expectJudged(t, among(0, 1, 2, 3), d)
		expectJudged(t, among(0, 2, 1, 2, 3), d)
		expectJudged(t, table(7, 8, -9, -9999, 10000), []list{d[0], d[3]})
	}
}
