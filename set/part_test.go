package set_test

import (
	"fmt"
	"math/rand/v2"
	"testing"

	"touchstone/api"
	"touchstone/set"
)

func expectCut(t *testing.T, d list, lo, hi int64, want list) {
	t.Helper()
	expectSet(t, fmt.Sprintf("Cut(%v, %d, %d)", d, lo, hi), set.Cut(d, lo, hi), want)
}

func expectWithout(t *testing.T, d list, v int64, want list) {
	t.Helper()
	expectSet(t, fmt.Sprintf("Without(%v, %d)", d, v), set.Without(d, v), want)
}

func expectMeet(t *testing.T, a, b, want list) {
	t.Helper()
	expectSet(t, fmt.Sprintf("Meet(%v, %v)", a, b), set.Meet(a, b), want)
	expectSet(t, fmt.Sprintf("Meet(%v, %v)", b, a), set.Meet(b, a), want)
}

// P9.3: Lo above Hi, and ends at the least and the greatest integers.
func TestCutEdges(t *testing.T) {
	h := ranges(1, 3, 7, 9)
	expectCut(t, ranges(1, 9), 4, 2, nil)
	expectCut(t, ranges(1, 9), 5, 4, nil)
	expectCut(t, h, greatest, least, nil)
	expectCut(t, h, 9, 1, nil)
	expectCut(t, h, 8, 2, nil)
	expectCut(t, h, least, greatest, h)
	expectCut(t, h, 1, 9, h)
	expectCut(t, h, least, 0, nil)
	expectCut(t, h, 10, greatest, nil)
	expectCut(t, h, least, 1, ranges(1, 1))
	expectCut(t, h, 9, greatest, ranges(9, 9))
	expectCut(t, h, least, least, nil)
	expectCut(t, h, greatest, greatest, nil)
	expectCut(t, h, 3, 7, ranges(3, 3, 7, 7))
	expectCut(t, h, 4, 6, nil)
	expectCut(t, h, 2, 2, ranges(2, 2))
	expectCut(t, ranges(-most, most), -most, most, ranges(-most, most))
	expectCut(t, ranges(-most, most), -most-1, -most, ranges(-most, -most))
	expectCut(t, ranges(-most, most), most, most+1, ranges(most, most))
	expectCut(t, nil, least, greatest, nil)
}

// P9.3: a value at the start, in the middle and at the end of a range, and one that is not in the set.
func TestWithoutEdges(t *testing.T) {
	h := ranges(1, 3, 7, 9)
	expectWithout(t, ranges(1, 3), 2, ranges(1, 1, 3, 3))
	expectWithout(t, h, 1, ranges(2, 3, 7, 9))
	expectWithout(t, h, 2, ranges(1, 1, 3, 3, 7, 9))
	expectWithout(t, h, 3, ranges(1, 2, 7, 9))
	expectWithout(t, h, 7, ranges(1, 3, 8, 9))
	expectWithout(t, h, 8, ranges(1, 3, 7, 7, 9, 9))
	expectWithout(t, h, 9, ranges(1, 3, 7, 8))
	for _, v := range []int64{least, -most - 1, 0, 4, 5, 6, 10, most + 1, greatest, 1 + 1<<32} {
		expectWithout(t, h, v, h)
	}
	expectWithout(t, ranges(5, 5), 5, nil)
	expectWithout(t, ranges(1, 2, 5, 5, 8, 9), 5, ranges(1, 2, 8, 9))
	expectWithout(t, ranges(-most, most), -most, ranges(-most+1, most))
	expectWithout(t, ranges(-most, most), most, ranges(-most, most-1))
	expectWithout(t, ranges(-most, most), 0, ranges(-most, -1, 1, most))
	expectWithout(t, nil, 0, nil)
}

// P9.3: sets of which one ends where the other one begins, and that have much or nothing in common.
func TestMeetEdges(t *testing.T) {
	expectMeet(t, ranges(1, 3, 7, 9), ranges(3, 8), ranges(3, 3, 7, 8))
	expectMeet(t, ranges(1, 3), ranges(3, 5), ranges(3, 3))
	expectMeet(t, ranges(1, 3), ranges(4, 5), nil)
	expectMeet(t, ranges(1, 3, 7, 9), ranges(3, 7), ranges(3, 3, 7, 7))
	expectMeet(t, ranges(1, 3, 7, 9), ranges(4, 6), nil)
	expectMeet(t, ranges(1, 3, 7, 9), ranges(9, 12), ranges(9, 9))
	expectMeet(t, ranges(1, 3, 7, 9), ranges(-4, 1), ranges(1, 1))
	expectMeet(t, ranges(1, 9), ranges(1, 3, 7, 9), ranges(1, 3, 7, 9))
	expectMeet(t, ranges(1, 9), ranges(2, 2, 4, 4, 6, 6), ranges(2, 2, 4, 4, 6, 6))
	expectMeet(t, ranges(1, 3, 5, 7), ranges(2, 5, 7, 9), ranges(2, 3, 5, 5, 7, 7))
	expectMeet(t, ranges(1, 1, 3, 3, 5, 5), ranges(2, 2, 4, 4), nil)
	expectMeet(t, ranges(-most, 0), ranges(0, most), ranges(0, 0))
	expectMeet(t, ranges(-most, most), ranges(-most, -most, most, most), ranges(-most, -most, most, most))
	expectMeet(t, ranges(1, 3), nil, nil)
	expectMeet(t, nil, list{}, nil)
}

// P9.3: two empty sets are the same; a piece of a set is another one.
func TestSameEdges(t *testing.T) {
	expectSame(t, nil, nil, true)
	expectSame(t, nil, list{}, true)
	expectSame(t, list{}, nil, true)
	expectSame(t, ranges(1, 3, 7, 9), ranges(1, 3, 7, 9), true)
	expectSame(t, ranges(-most, most), ranges(-most, most), true)
	for _, other := range []list{nil, ranges(1, 3), ranges(7, 9), ranges(1, 9), ranges(1, 3, 7, 8), ranges(0, 3, 7, 9), ranges(1, 3, 7, 9, 11, 11)} {
		expectSame(t, ranges(1, 3, 7, 9), other, false)
		expectSame(t, other, ranges(1, 3, 7, 9), false)
	}
}

// P9.3: all parts of all sets of eight integers that follow one another, at both limits and between them.
func TestPartsSmall(t *testing.T) {
	for _, w := range windows(8) {
		for bits := range uint64(1 << w.n) {
			d := w.form(bits)
			for _, v := range w.near() {
				expectWithout(t, d, v, w.form(bits&^w.bits(ranges(v, v))))
				for _, to := range w.near() {
					expectCut(t, d, v, to, w.form(bits&w.bits(ranges(v, to))))
				}
			}
		}
	}
}

// P9.3: all pairs of sets of seven integers that follow one another.
func TestPairsSmall(t *testing.T) {
	for _, w := range windows(7) {
		for one := range uint64(1 << w.n) {
			for other := range uint64(1 << w.n) {
				a, b := w.form(one), w.form(other)
				expectSet(t, "Meet", set.Meet(a, b), w.form(one&other))
				expectSame(t, a, b, one == other)
			}
		}
	}
}

// P9.3: pairs of sets of many ranges, most of them short.
func TestPairsOfManyRanges(t *testing.T) {
	random := rand.New(rand.NewPCG(9, 3))
	for range 20000 {
		w := windows(60)[random.IntN(3)]
		one, other := random.Uint64()>>4, random.Uint64()>>4
		if random.IntN(2) == 0 {
			one |= one << random.IntN(9)
		}
		one &= 1<<60 - 1
		a, b := w.form(one), w.form(other)
		expectMeet(t, a, b, w.form(one&other))
		expectSame(t, a, b, one == other)
		lo := random.IntN(60)
		n := random.IntN(61 - lo)
		from := w.from + int64(lo)
		expectCut(t, a, from, from+int64(n)-1, w.form(one&((1<<n-1)<<lo)))
		expectWithout(t, a, from, w.form(one&^(1<<lo)))
	}
}

// P9.3: sets that reach far, held against each value of theirs.
func TestFarSets(t *testing.T) {
	random := rand.New(rand.NewPCG(9, 33))
	for range 5 {
		a, inA := farSet(t, random)
		b, inB := farSet(t, random)
		from, to := random.Int64N(2*most)-most, random.Int64N(2*most)-most
		both, part, rest := set.Meet(a, b), set.Cut(a, min(from, to), max(from, to)), set.Without(a, from)
		expectValues(t, a, inA)
		expectValues(t, both, func(v int64) bool { return inA(v) && inB(v) })
		expectValues(t, part, func(v int64) bool { return inA(v) && v >= min(from, to) && v <= max(from, to) })
		expectValues(t, rest, func(v int64) bool { return inA(v) && v != from })
	}
}

// farSet is the set of some far ranges, and tells of a value whether one of them has it.
func farSet(t *testing.T, random *rand.Rand) (list, func(int64) bool) {
	has := make([]bool, 2*most+1)
	var l list
	for range 1 + random.IntN(9) {
		lo := random.Int64N(2 * most)
		hi := lo + random.Int64N(2*most-lo)/4
		l = append(l, ranges(lo-most, hi-most)...)
		for i := lo; i <= hi; i++ {
			has[i] = true
		}
	}
	d, err := set.Of(l)
	if err != api.OK {
		t.Fatalf("Of(%v): %d", l, err)
	}
	return d, func(v int64) bool { return has[v+most] }
}

// expectValues builds the ranges of the values for which has holds, and holds d against them.
func expectValues(t *testing.T, d list, has func(int64) bool) {
	t.Helper()
	var want list
	for v := int64(-most); v <= most; v++ {
		if !has(v) {
			continue
		}
		if v > -most && has(v-1) {
			want[len(want)-1].Hi = v
		} else {
			want = append(want, ranges(v, v)...)
		}
	}
	expectSet(t, "a far set", d, want)
}
