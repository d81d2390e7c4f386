package set_test

import (
	"slices"
	"testing"

	"touchstone/api"
	"touchstone/set"
)

// P9.5: Meet is idempotent and commutative, and has just the values that both sets have.
func TestMeetCommutative(t *testing.T) {
	for _, w := range windows(6) {
		for one := range uint64(1 << w.n) {
			a := w.form(one)
			expectSet(t, "Meet of a set with itself", set.Meet(a, a), a)
			for other := range uint64(1 << w.n) {
				b := w.form(other)
				both := set.Meet(a, b)
				expectSet(t, "Meet turned round", set.Meet(b, a), both)
				for _, v := range w.near() {
					expectHas(t, both, v, set.Has(a, v) && set.Has(b, v))
					expectHas(t, both, v, w.has(one, v) && w.has(other, v))
				}
			}
		}
	}
}

// P9.5: Meet is associative.
func TestMeetAssociative(t *testing.T) {
	for _, w := range windows(5) {
		for triple := range uint64(1 << (3 * w.n)) {
			a, b, c := w.form(triple), w.form(triple>>w.n), w.form(triple>>(2*w.n))
			expectSet(t, "Meet of three", set.Meet(set.Meet(a, b), c), set.Meet(a, set.Meet(b, c)))
		}
	}
}

// P9.5: Meet with one range is Cut.
func TestMeetAndCut(t *testing.T) {
	for _, w := range windows(7) {
		for bits := range uint64(1 << w.n) {
			d := w.form(bits)
			for lo := w.from; lo < w.from+int64(w.n); lo++ {
				for hi := lo; hi < w.from+int64(w.n); hi++ {
					expectSet(t, "Meet with a range", set.Meet(d, ranges(lo, hi)), set.Cut(d, lo, hi))
				}
			}
		}
	}
}

// P9.6: the parts of a set have as many values together as the set; Without has one value less.
func TestSizes(t *testing.T) {
	for _, w := range windows(9) {
		for bits := range uint64(1 << w.n) {
			d := w.form(bits)
			size := set.Size(d)
			for _, v := range w.near() {
				if v < greatest {
					expectSize(t, set.Cut(d, v+1, greatest), size-set.Size(set.Cut(d, least, v)))
				}
				if v > least {
					expectSize(t, set.Cut(d, least, v-1), size-set.Size(set.Cut(d, v, greatest)))
				}
				less := int64(0)
				if w.has(bits, v) {
					less = 1
				}
				expectSize(t, set.Without(d, v), size-less)
			}
		}
	}
}

// calls are the results that are lists, of each function, for two lists.
func calls(a, b list) []list {
	both := append(slices.Clone(a), b...)
	l := []list{set.Meet(a, b), set.Meet(b, a), set.Meet(a, a)}
	for _, d := range []list{a, b, both} {
		all, _ := set.Of(d)
		l = append(l, all, set.Cut(d, least, greatest), set.Cut(d, 2, 8), set.Without(d, 2), set.Without(d, 100))
	}
	return l
}

// R4, R6: nothing that is handed in is changed, not even behind its end; nothing is shared with a result or with a later one.
func TestNothingShared(t *testing.T) {
	lists := append(wrongs(), nil, ranges(5, 5), ranges(1, 3), ranges(1, 3, 7, 9), ranges(2, 8, 10, 11, 13, 20), ranges(-most, most))
	for _, one := range lists {
		for _, other := range lists {
			a, b := append(slices.Clone(one), ranges(50, 60)...), append(slices.Clone(other), ranges(70, 80)...)
			first := calls(a[:len(one)], b[:len(other)])
			before := make([]list, len(first))
			for i, d := range first {
				before[i] = slices.Clone(d)
			}
			for _, d := range first {
				scribble(d)
			}
			if !slices.Equal(a, append(slices.Clone(one), ranges(50, 60)...)) || !slices.Equal(b, append(slices.Clone(other), ranges(70, 80)...)) {
				t.Fatalf("%v, %v became %v, %v", one, other, a, b)
			}
			for i, d := range calls(a[:len(one)], b[:len(other)]) {
				if !slices.Equal(d, before[i]) {
					t.Fatalf("%v, %v: result %d became %v, not %v", one, other, i, d, before[i])
				}
			}
		}
	}
}

// scribble writes to all of a list, also behind its end.
func scribble(d list) {
	d = d[:cap(d)]
	for i := range d {
		d[i] = api.Range{Lo: -77, Hi: -77}
	}
}

// R6: the functions that answer no list leave theirs as they are too.
func TestAskingChangesNothing(t *testing.T) {
	for _, d := range append(wrongs(), ranges(1, 3, 7, 9), ranges(7, 9, 1, 3, 2, 2)) {
		a := slices.Clone(d)
		set.Right(a)
		set.Size(a)
		set.Ends(a)
		set.Has(a, 3)
		set.Next(a, 3)
		set.Same(a, a)
		if !slices.Equal(a, d) {
			t.Fatalf("%v became %v", d, a)
		}
	}
}
