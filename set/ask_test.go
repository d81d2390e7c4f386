package set_test

import (
	"slices"
	"testing"

	"touchstone/api"
	"touchstone/set"
)

func expectHas(t *testing.T, d list, v int64, want bool) {
	t.Helper()
	if has := set.Has(d, v); has != want {
		t.Fatalf("Has(%v, %d) = %v", d, v, has)
	}
}

func expectSize(t *testing.T, d list, want int64) {
	t.Helper()
	if size := set.Size(d); size != want {
		t.Fatalf("Size(%v) = %d, not %d", d, size, want)
	}
}

func expectEnds(t *testing.T, d list, want api.Range, wantOK bool) {
	t.Helper()
	if ends, ok := set.Ends(d); ends != want || ok != wantOK {
		t.Fatalf("Ends(%v) = %v, %v, not %v, %v", d, ends, ok, want, wantOK)
	}
}

func expectNext(t *testing.T, d list, v, want int64, wantOK bool) {
	t.Helper()
	if next, ok := set.Next(d, v); next != want || ok != wantOK {
		t.Fatalf("Next(%v, %d) = %d, %v, not %d, %v", d, v, next, ok, want, wantOK)
	}
}

func expectSame(t *testing.T, a, b list, want bool) {
	t.Helper()
	if same := set.Same(a, b); same != want {
		t.Fatalf("Same(%v, %v) = %v", a, b, same)
	}
}

// P9.2: the chapter's examples, and sets of one value, of none and of all.
func TestAskEdges(t *testing.T) {
	expectSize(t, ranges(1, 1, 3, 5), 4)
	expectSize(t, ranges(-most, most), 2*most+1)
	expectSize(t, ranges(7, 7), 1)
	expectSize(t, nil, 0)
	expectNext(t, ranges(1, 3, 7, 9), 4, 7, true)
	expectNext(t, ranges(1, 3, 7, 9), 3, 3, true)
	expectNext(t, ranges(1, 3, 7, 9), 9, 9, true)
	expectNext(t, ranges(1, 3, 7, 9), 10, 0, false)
	expectNext(t, ranges(1, 3, 7, 9), least, 1, true)
	expectNext(t, ranges(1, 3, 7, 9), greatest, 0, false)
	expectNext(t, ranges(-most, most), least, -most, true)
	expectNext(t, ranges(-most, most), most, most, true)
	expectNext(t, ranges(-most, most), most+1, 0, false)
	expectNext(t, nil, 0, 0, false)
	expectEnds(t, ranges(1, 3, 7, 9), api.Range{Lo: 1, Hi: 9}, true)
	expectEnds(t, ranges(5, 5), api.Range{Lo: 5, Hi: 5}, true)
	expectEnds(t, ranges(-most, -most, most, most), api.Range{Lo: -most, Hi: most}, true)
	expectEnds(t, nil, api.Range{}, false)
	expectEnds(t, list{}, api.Range{}, false)
	expectHas(t, ranges(-most, most), least, false)
	expectHas(t, ranges(-most, most), greatest, false)
	expectHas(t, ranges(-most, most), -most-1, false)
	expectHas(t, ranges(-most, most), -most, true)
	expectHas(t, ranges(-most, most), most, true)
	expectHas(t, ranges(-most, most), most+1, false)
	expectHas(t, ranges(0, 0), 1<<32, false)
	expectHas(t, nil, 0, false)
}

// judgeAsk holds Has, Size, Ends and Next of a set against the bits of its values.
func (w window) judgeAsk(t *testing.T, bits uint64) {
	d := w.form(bits)
	var values []int64
	for i := range w.n {
		if bits>>i&1 == 1 {
			values = append(values, w.from+int64(i))
		}
	}
	expectSize(t, d, int64(len(values)))
	if len(values) == 0 {
		expectEnds(t, d, api.Range{}, false)
	} else {
		expectEnds(t, d, api.Range{Lo: values[0], Hi: values[len(values)-1]}, true)
	}
	for _, v := range w.near() {
		expectHas(t, d, v, slices.Contains(values, v))
		i := slices.IndexFunc(values, func(w int64) bool { return w >= v })
		if i < 0 {
			expectNext(t, d, v, 0, false)
		} else {
			expectNext(t, d, v, values[i], true)
		}
	}
}

// P9.2: all sets of nine integers that follow one another, at both limits and between them.
func TestAskSmall(t *testing.T) {
	for _, w := range windows(9) {
		for bits := range uint64(1 << w.n) {
			w.judgeAsk(t, bits)
		}
	}
}

// P9.2: a set of as many ranges as there can be.
func TestAskManyRanges(t *testing.T) {
	var d list
	for v := int64(-most); v <= most; v += 2 {
		d = append(d, api.Range{Lo: v, Hi: v})
	}
	if !set.Right(d) || set.Size(d) != most+1 {
		t.Errorf("Right, Size: %v, %d", set.Right(d), set.Size(d))
	}
	for _, v := range []int64{-most, -most + 1, -1, 0, 1, 2, most - 1, most} {
		even := v + v&1
		if next, ok := set.Next(d, v); next != even || !ok || set.Has(d, v) != (even == v) {
			t.Errorf("Next, Has for %d: %d, %v, %v", v, next, ok, set.Has(d, v))
		}
	}
}

// P9.1, P9.2, P9.3: lists that are not sets have no values, and no parts.
func TestWrongLists(t *testing.T) {
	for _, d := range wrongs() {
		expectNothing(t, d)
	}
	tuples(span(-1, 3), 3, func(l list) {
		if !set.Right(l) {
			expectNothing(t, l)
		}
	})
	expectHas(t, ranges(1, 1, 2, 2), 1, false)
}

// expectNothing asks all of a list that is not a set.
func expectNothing(t *testing.T, d list) {
	t.Helper()
	expectSize(t, d, 0)
	expectEnds(t, d, api.Range{}, false)
	for _, v := range []int64{least, -most - 1, -most, -1, 0, 1, 2, 3, 4, 5, 9, most, most + 1, greatest} {
		expectHas(t, d, v, false)
		expectNext(t, d, v, 0, false)
		expectSet(t, "Without of a wrong list", set.Without(d, v), nil)
		expectSet(t, "Cut of a wrong list", set.Cut(d, v, greatest), nil)
		expectSet(t, "Cut of a wrong list", set.Cut(d, least, v), nil)
		expectSet(t, "Cut of a wrong list", set.Cut(d, v, v), nil)
	}
	expectSet(t, "Meet of wrong lists", set.Meet(d, d), nil)
	expectSame(t, d, slices.Clone(d), false)
	for _, right := range []list{nil, ranges(1, 1), ranges(1, 3, 7, 9), ranges(-most, most)} {
		expectSet(t, "Meet with a wrong list", set.Meet(right, d), nil)
		expectSet(t, "Meet of a wrong list", set.Meet(d, right), nil)
		expectSame(t, d, right, false)
		expectSame(t, right, d, false)
	}
}
