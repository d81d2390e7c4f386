package set_test

import (
	"fmt"
	"math/big"
	"math/rand/v2"
	"slices"
	"testing"

	"touchstone/api"
	"touchstone/set"
)

func expectRight(t *testing.T, d list, want bool) {
	t.Helper()
	if right := set.Right(d); right != want {
		t.Fatalf("Right(%v) = %v", d, right)
	}
}

// expectOf holds Of against a set and an error; beside an error there is no set (R3).
func expectOf(t *testing.T, l, want list, wantErr api.Errno) {
	t.Helper()
	d, err := set.Of(l)
	if err != wantErr || !slices.Equal(d, want) {
		t.Fatalf("Of(%v) = %v, %d, not %v, %d", l, d, err, want, wantErr)
	}
	expectRight(t, d, true)
}

// P9.1: lists that are sets, and the ends of what is permitted.
func TestRightEdges(t *testing.T) {
	for _, d := range []list{
		nil, {}, ranges(5, 5), ranges(1, 3), ranges(1, 3, 5, 5), ranges(1, 3, 5, 9), ranges(-7, -7, -5, -5, -3, -1, 1, 1),
		ranges(-most, -most), ranges(most, most), ranges(-most, most), ranges(-most, -most, most, most), ranges(-most, -most, -most+2, most-2, most, most),
	} {
		expectRight(t, d, true)
	}
	for _, d := range wrongs() {
		expectRight(t, d, false)
	}
}

// P9.1: all lists of up to three ranges with ends from -2 to 3, held against the forms of all sets there.
func TestRightSmall(t *testing.T) {
	w := window{-2, 6}
	forms := map[string]int{}
	for bits := range uint64(1 << w.n) {
		forms[fmt.Sprint(w.form(bits))] = 1
	}
	tuples(span(-2, 3), 3, func(l list) {
		expectRight(t, l, forms[fmt.Sprint(l)] == 1)
	})
}

// isSet is the word of the chapter, in exact arithmetic.
func isSet(d list) bool {
	for i, r := range d {
		if r.Lo > r.Hi || r.Lo < -most || r.Hi > most {
			return false
		}
		if i == 0 {
			continue
		}
		gap := new(big.Int).Sub(big.NewInt(r.Lo), big.NewInt(d[i-1].Hi))
		if gap.Cmp(big.NewInt(2)) < 0 {
			return false
		}
	}
	return true
}

// P9.1: all lists of up to two ranges with ends about the limits and at the least and the greatest integers.
func TestRightAtLimits(t *testing.T) {
	ends := []int64{
		least, least + 1, least + 2, -most - 2, -most - 1, -most, -most + 1, -1, 0, 1, most - 1, most, most + 1, most + 2,
		greatest - 2, greatest - 1, greatest,
	}
	tuples(ends, 2, func(l list) { expectRight(t, l, isSet(l)) })
}

// P9.1: a list is a set only if each of its ranges is in its place.
func TestRightLongLists(t *testing.T) {
	var d list
	for i := range int64(2000) {
		d = append(d, api.Range{Lo: 3*i - 900, Hi: 3*i - 899})
	}
	expectRight(t, d, true)
	for _, i := range []int{1, 2, 1000, 1998, 1999} {
		for _, r := range []api.Range{{Lo: d[i].Lo - 1, Hi: d[i].Hi}, {Lo: d[i].Hi, Hi: d[i].Lo}, {Lo: least, Hi: d[i].Hi}, {Lo: d[i].Lo, Hi: most + 1}} {
			wrong := slices.Clone(d)
			wrong[i] = r
			expectRight(t, wrong, false)
		}
	}
}

// P9.1: no range, one value, ranges that touch, overlap, lie in one another, stand in no order, or are empty.
func TestOfEdges(t *testing.T) {
	expectOf(t, nil, nil, api.OK)
	expectOf(t, list{}, nil, api.OK)
	expectOf(t, ranges(5, 5), ranges(5, 5), api.OK)
	expectOf(t, ranges(1, 3, 4, 6), ranges(1, 6), api.OK)
	expectOf(t, ranges(4, 6, 1, 3), ranges(1, 6), api.OK)
	expectOf(t, ranges(1, 3, 5, 6), ranges(1, 3, 5, 6), api.OK)
	expectOf(t, ranges(1, 5, 3, 8), ranges(1, 8), api.OK)
	expectOf(t, ranges(3, 8, 1, 5), ranges(1, 8), api.OK)
	expectOf(t, ranges(1, 9, 3, 4), ranges(1, 9), api.OK)
	expectOf(t, ranges(3, 4, 1, 9), ranges(1, 9), api.OK)
	expectOf(t, ranges(1, 9, 2, 3, 5, 6, 9, 9), ranges(1, 9), api.OK)
	expectOf(t, ranges(1, 4, 1, 9, 1, 2), ranges(1, 9), api.OK)
	expectOf(t, ranges(1, 3, 1, 3), ranges(1, 3), api.OK)
	expectOf(t, ranges(7, 9, 1, 3), ranges(1, 3, 7, 9), api.OK)
	expectOf(t, ranges(5, 7, 1, 3, 4, 4), ranges(1, 7), api.OK)
	expectOf(t, ranges(9, 9, 7, 7, 5, 5, 8, 8), ranges(5, 5, 7, 9), api.OK)
	expectOf(t, ranges(4, 3), nil, api.OK)
	expectOf(t, ranges(4, 3, 9, -9), nil, api.OK)
	expectOf(t, ranges(1, 3, 5, 4, 6, 8), ranges(1, 3, 6, 8), api.OK)
	expectOf(t, ranges(9, 2, 1, 3), ranges(1, 3), api.OK)
}

// P9.1: ends at the limits and one beyond, in a range that is empty and in one that is not.
func TestOfAtLimits(t *testing.T) {
	expectOf(t, ranges(-most, -most), ranges(-most, -most), api.OK)
	expectOf(t, ranges(most, most), ranges(most, most), api.OK)
	expectOf(t, ranges(-most, most), ranges(-most, most), api.OK)
	expectOf(t, ranges(1, most, -most, 0), ranges(-most, most), api.OK)
	for _, r := range []list{
		ranges(-most-1, -most-1), ranges(-most-1, 0), ranges(-most-1, most), ranges(most+1, most+1), ranges(0, most+1), ranges(-most, most+1),
		ranges(least, greatest), ranges(least, least), ranges(greatest, greatest), ranges(least, 0), ranges(0, greatest),
	} {
		expectOf(t, r, nil, api.ErrArg)
		expectOf(t, append(ranges(1, 3, 7, 6, 9, 9), r...), nil, api.ErrArg)
		expectOf(t, append(r, ranges(1, 3, 7, 6, 9, 9)...), nil, api.ErrArg)
	}
	for _, r := range []list{
		ranges(most, -most), ranges(0, -most), ranges(most, 0), ranges(0, -most-1), ranges(-most, -most-1), ranges(most+1, 0), ranges(most+1, most),
		ranges(most+1, -most-1), ranges(greatest, least), ranges(greatest, greatest-1), ranges(least+1, least), ranges(0, least), ranges(greatest, 0),
	} {
		expectOf(t, r, nil, api.OK)
		expectOf(t, append(ranges(7, 9, 1, 3), r...), ranges(1, 3, 7, 9), api.OK)
		expectOf(t, append(r, ranges(7, 9, 1, 3)...), ranges(1, 3, 7, 9), api.OK)
		expectOf(t, append(r, api.Range{Lo: most, Hi: most + 1}), nil, api.ErrArg)
	}
}

// judgeOf is what Of must answer for ranges whose values, if they are permitted, all lie in w.
func (w window) judgeOf(l list) (list, api.Errno) {
	for _, r := range l {
		if r.Lo <= r.Hi && (min(r.Lo, r.Hi) < -most || max(r.Lo, r.Hi) > most) {
			return nil, api.ErrArg
		}
	}
	return w.form(w.bits(l)), api.OK
}

// P9.1: all lists of up to three ranges in three windows, of which two reach beyond the limits.
func TestOfSmall(t *testing.T) {
	for _, w := range []window{{-2, 6}, {-most - 2, 6}, {most - 3, 6}} {
		tuples(span(w.from, w.from+int64(w.n)-1), 3, func(l list) {
			want, err := w.judgeOf(l)
			expectOf(t, l, want, err)
		})
	}
}

// P9.1: long lists of ranges in no order, with empty ones among them.
func TestOfLongLists(t *testing.T) {
	random := rand.New(rand.NewPCG(9, 1))
	for range 20000 {
		w := windows(60)[random.IntN(3)]
		var l list
		for range random.IntN(25) {
			lo := w.from + random.Int64N(60)
			l = append(l, api.Range{Lo: lo, Hi: min(w.from+59, lo+random.Int64N(9)-2)})
		}
		want, err := w.judgeOf(l)
		expectOf(t, l, want, err)
	}
}

// P9.4: sets with the same values are the same lists, however their values are put together.
func TestFewForms(t *testing.T) {
	random := rand.New(rand.NewPCG(9, 4))
	for _, w := range windows(9) {
		for bits := range uint64(1 << w.n) {
			d := w.form(bits)
			expectRight(t, d, true)
			var single list
			for _, i := range random.Perm(w.n) {
				if bits>>i&1 == 1 {
					single = append(single, api.Range{Lo: w.from + int64(i), Hi: w.from + int64(i)})
				}
			}
			expectOf(t, single, d, api.OK)
			expectOf(t, append(d, single...), d, api.OK)
		}
	}
}
