package trail_test

import (
	"testing"

	"touchstone/api"
)

// P10.2: the chapter's example, and sets that meet the domain in all, in some and in none of its values.
func TestNarrowEdges(t *testing.T) {
	h := ranges(1, 3, 7, 9)
	for _, d := range []list{h, ranges(1, 9), ranges(-most, most), ranges(1, 4, 6, 9), ranges(1, 3, 5, 5, 7, 9), ranges(0, 3, 7, 10)} {
		expectNarrowed(t, h, d, h, false, api.OK)
	}
	for _, d := range []list{nil, {}, ranges(4, 6), ranges(5, 5), ranges(-most, 0), ranges(10, most), ranges(0, 0, 4, 6, 10, 10)} {
		expectNarrowed(t, h, d, h, false, api.ErrFail)
	}
	expectNarrowed(t, h, ranges(3, 8), ranges(3, 3, 7, 8), true, api.OK)
	expectNarrowed(t, h, ranges(-most, 1), ranges(1, 1), true, api.OK)
	expectNarrowed(t, h, ranges(9, most), ranges(9, 9), true, api.OK)
	expectNarrowed(t, h, ranges(1, 8), ranges(1, 3, 7, 8), true, api.OK)
	expectNarrowed(t, h, ranges(2, 9), ranges(2, 3, 7, 9), true, api.OK)
	expectNarrowed(t, h, ranges(1, 3), ranges(1, 3), true, api.OK)
	expectNarrowed(t, h, ranges(1, 1, 3, 3, 7, 9), ranges(1, 1, 3, 3, 7, 9), true, api.OK)
	expectNarrowed(t, ranges(1, 9), h, h, true, api.OK)
	expectNarrowed(t, ranges(1, 5), ranges(3, 9), ranges(3, 5), true, api.OK)
	expectNarrowed(t, ranges(5, 5), ranges(5, 5), ranges(5, 5), false, api.OK)
	expectNarrowed(t, ranges(5, 5), ranges(4, 4, 6, 6), ranges(5, 5), false, api.ErrFail)
	expectNarrowed(t, ranges(-most, most), ranges(-most, -most, most, most), ranges(-most, -most, most, most), true, api.OK)
	expectNarrowed(t, ranges(-most, most), ranges(-most, most), ranges(-most, most), false, api.OK)
}

// expectNarrowed narrows the middle one of three variables, at no level and at the first one; the others stay as they are.
func expectNarrowed(t *testing.T, before, d, after list, want bool, wantErr api.Errno) {
	t.Helper()
	for levels := range 2 {
		s := newStore(t, before, before, before)
		for range levels {
			expectPush(t, s, api.OK)
		}
		expectNarrow(t, s, 1, d, want, wantErr)
		expectDoms(t, s, before, after, before)
		if want {
			expectChanged(t, s, 1)
		} else {
			expectChanged(t, s)
		}
		expectLevel(t, s, levels)
	}
}

// P10.2: each set of eight integers that follow one another, narrowed by each other one, at both limits and between them.
func TestNarrowSmall(t *testing.T) {
	for _, w := range windows(8) {
		for dom := uint64(1); dom < 1<<w.n; dom++ {
			for bits := range uint64(1 << w.n) {
				j := newJudge(w, dom)
				s := j.store(t)
				want, wantErr := j.narrow(0, bits)
				if less, err := s.Narrow(0, w.form(bits)); less != want || err != wantErr {
					t.Fatalf("Narrow of %v by %v = %v, %d", w.form(dom), w.form(bits), less, err)
				}
				if !sameDoms(s.All(), j.forms()) {
					t.Fatalf("%v narrowed by %v: %v", w.form(dom), w.form(bits), s.All())
				}
			}
		}
	}
}

// P10.2: lists that are not sets, and variables that there are not, change nothing, also where no value would be left (R2, R5).
func TestNarrowWrong(t *testing.T) {
	doms := []list{ranges(1, 9), ranges(50, 60), ranges(0, 1)}
	for levels := range 3 {
		s := newStore(t, doms...)
		for range levels {
			expectPush(t, s, api.OK)
		}
		for _, wrong := range wrongs() {
			for x := range doms {
				expectNarrow(t, s, x, wrong, false, api.ErrArg)
			}
		}
		for _, x := range wrongPlaces(len(doms)) {
			for _, d := range append(wrongs(), nil, ranges(1, 1), ranges(50, 55), ranges(-most, most)) {
				expectNarrow(t, s, x, d, false, api.ErrArg)
			}
		}
		expectDoms(t, s, doms...)
		expectChanged(t, s)
		expectLevel(t, s, levels)
	}
}

// P10.2: the domain that Narrow meets is the one that an earlier Narrow left.
func TestNarrowAgain(t *testing.T) {
	s := newStore(t, ranges(1, 9), ranges(1, 9))
	expectNarrow(t, s, 0, ranges(1, 4, 6, 9), true, api.OK)
	expectNarrow(t, s, 0, ranges(1, 4, 6, 9), false, api.OK)
	expectNarrow(t, s, 0, ranges(5, 5), false, api.ErrFail)
	expectNarrow(t, s, 0, ranges(3, 7), true, api.OK)
	expectNarrow(t, s, 0, ranges(8, 9), false, api.ErrFail)
	expectDoms(t, s, ranges(3, 4, 6, 7), ranges(1, 9))
	expectNarrow(t, s, 1, ranges(8, 9), true, api.OK)
	expectNarrow(t, s, 0, ranges(6, 6), true, api.OK)
	expectDoms(t, s, ranges(6, 6), ranges(8, 9))
}

// P10.2: each of as many variables as there can be is narrowed alone.
func TestNarrowEachVariable(t *testing.T) {
	s := newStore(t, same(64, ranges(0, 99))...)
	want := same(64, ranges(0, 99))
	for i := range 64 {
		x := i * 37 % 64
		v := int64(x)
		expectNarrow(t, s, x, ranges(v, v+3, v+9, v+9), true, api.OK)
		want[x] = ranges(v, v+3, v+9, v+9)
		expectDoms(t, s, want...)
	}
}
