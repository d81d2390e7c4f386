package set_test

import (
	"slices"
	"testing"

	"touchstone/api"
	"touchstone/set"
)

type list = []api.Range

const (
	least    = -1 << 63
	greatest = 1<<63 - 1
	most     = 1048576
)

// ranges is the list of the ranges that pairs of ends tell.
func ranges(ends ...int64) list {
	var l list
	for i := 0; i < len(ends); i += 2 {
		l = append(l, api.Range{Lo: ends[i], Hi: ends[i+1]})
	}
	return l
}

// A window is some integers that follow one another. Its sets are told by bits: bit i is the value from + i.
type window struct {
	from int64
	n    int
}

// windows stand at both ends of what is permitted, and between them.
func windows(n int) []window {
	return []window{{-most, n}, {-4, n}, {most - int64(n) + 1, n}}
}

// form is the set of some values, by the word of the chapter: a range for each run of bits.
func (w window) form(bits uint64) list {
	var l list
	for i := range w.n {
		if bits>>i&1 == 0 {
			continue
		}
		v := w.from + int64(i)
		if i > 0 && bits>>(i-1)&1 == 1 {
			l[len(l)-1].Hi = v
		} else {
			l = append(l, api.Range{Lo: v, Hi: v})
		}
	}
	return l
}

// bits is what a list of ranges covers of the window.
func (w window) bits(l list) uint64 {
	bits := uint64(0)
	for i := range w.n {
		v := w.from + int64(i)
		if slices.ContainsFunc(l, func(r api.Range) bool { return r.Lo <= v && v <= r.Hi }) {
			bits |= 1 << i
		}
	}
	return bits
}

// has reports whether v is among the values that bits tell.
func (w window) has(bits uint64, v int64) bool {
	return v >= w.from && v < w.from+int64(w.n) && bits>>(v-w.from)&1 == 1
}

// near are the values of the window, those around it, and the ends of all integers.
func (w window) near() []int64 {
	l := []int64{least, least + 1, greatest - 1, greatest, -most - 1, -most, most, most + 1, 1 << 32, -1 << 32}
	for v := w.from - 2; v < w.from+int64(w.n)+2; v++ {
		l = append(l, v)
	}
	return l
}

// wrongs are lists that are not sets.
func wrongs() []list {
	return []list{
		ranges(1, 1, 2, 2), ranges(1, 3, 4, 6), ranges(1, 3, 3, 6), ranges(1, 3, 2, 6), ranges(1, 9, 3, 4), ranges(1, 3, 1, 3),
		ranges(7, 9, 1, 3), ranges(5, 5, 3, 3), ranges(1, 1, 3, 3, 4, 4), ranges(1, 1, 3, 3, 2, 2),
		ranges(2, 1), ranges(1, 0), ranges(1, 3, 6, 5), ranges(6, 5, 7, 9), ranges(1, 3, 6, 5, 8, 9), ranges(1, 3, 4, 3),
		ranges(-most-1, -most-1), ranges(-most-1, 4), ranges(-most-1, most), ranges(-most-3, -most-3, -most-1, 0),
		ranges(most+1, most+1), ranges(4, most+1), ranges(-most, most+1), ranges(0, most-2, most, most+1), ranges(1, 2, most+1, most+5),
		ranges(least, greatest), ranges(least, 4), ranges(0, greatest), ranges(greatest, greatest), ranges(least, least),
		ranges(greatest, least), ranges(0, greatest, 4, 5), ranges(0, greatest, least+1, 5), ranges(0, greatest-1, least, 5), ranges(3, 5, least, least),
	}
}

// expectSet holds a result of a call against the set that it must be.
func expectSet(t *testing.T, call string, got, want list) {
	t.Helper()
	if !slices.Equal(got, want) {
		t.Fatalf("%s = %v, not %v", call, got, want)
	}
	if !set.Right(got) {
		t.Fatalf("%s = %v, which Right refuses", call, got)
	}
}

// tuples calls do with each list of up to n ranges with ends among some.
func tuples(ends []int64, n int, do func(list)) {
	var grow func(list)
	grow = func(l list) {
		do(slices.Clone(l))
		if len(l) == n {
			return
		}
		for _, lo := range ends {
			for _, hi := range ends {
				grow(append(slices.Clone(l), api.Range{Lo: lo, Hi: hi}))
			}
		}
	}
	grow(nil)
}

// span are the integers from one to another.
func span(from, to int64) []int64 {
	var l []int64
	for v := from; v <= to; v++ {
		l = append(l, v)
	}
	return l
}
