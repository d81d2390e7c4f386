package trail_test

import (
	"math/rand/v2"
	"slices"
	"testing"

	"touchstone/api"
	"touchstone/trail"
)

type list = []api.Range

const (
	least    = -1 << 63
	greatest = 1<<63 - 1
	most     = 1048576
	maxLevel = 512
)

// ranges is the list of the ranges that pairs of ends tell.
func ranges(ends ...int64) list {
	var l list
	for i := 0; i < len(ends); i += 2 {
		l = append(l, api.Range{Lo: ends[i], Hi: ends[i+1]})
	}
	return l
}

// wrongs are lists that are not sets.
func wrongs() []list {
	return []list{
		ranges(2, 1), ranges(1, 0), ranges(greatest, least), ranges(1, 3, 6, 5), ranges(6, 5, 7, 9), ranges(0, 5, 7, 6),
		ranges(1, 1, 2, 2), ranges(1, 3, 4, 6), ranges(1, 3, 3, 6), ranges(1, 9, 3, 4), ranges(1, 3, 1, 3), ranges(7, 9, 1, 3), ranges(1, 1, 3, 3, 4, 4),
		ranges(-most-1, 4), ranges(-most-1, -most-1), ranges(4, most+1), ranges(most+1, most+1), ranges(least, greatest), ranges(1, 2, 4, most+1),
	}
}

// wrongPlaces are variables that a store of n variables has not.
func wrongPlaces(n int) []int {
	return []int{-1, -2, -n, least, n, n + 1, 64, 65, 1 << 32, greatest}
}

func newStore(t *testing.T, doms ...list) *trail.Store {
	t.Helper()
	s := trail.New(doms)
	if s == nil {
		t.Fatalf("New(%v) = nil", doms)
	}
	return s
}

func expectNarrow(t *testing.T, s *trail.Store, x int, d list, want bool, wantErr api.Errno) {
	t.Helper()
	if less, err := s.Narrow(x, d); less != want || err != wantErr {
		t.Fatalf("Narrow(%d, %v) = %v, %d, not %v, %d", x, d, less, err, want, wantErr)
	}
}

func expectPush(t *testing.T, s *trail.Store, want api.Errno) {
	t.Helper()
	if err := s.Push(); err != want {
		t.Fatalf("Push = %d, not %d", err, want)
	}
}

func expectPop(t *testing.T, s *trail.Store, want api.Errno) {
	t.Helper()
	if err := s.Pop(); err != want {
		t.Fatalf("Pop = %d, not %d", err, want)
	}
}

func expectLevel(t *testing.T, s *trail.Store, want int) {
	t.Helper()
	if level := s.Level(); level != want {
		t.Fatalf("Level = %d, not %d", level, want)
	}
}

func expectChanged(t *testing.T, s *trail.Store, want ...int) {
	t.Helper()
	if changed := s.Changed(); !slices.Equal(changed, want) {
		t.Fatalf("Changed = %v, not %v", changed, want)
	}
}

func sameDoms(a, b []list) bool {
	return slices.EqualFunc(a, b, func(a, b list) bool { return slices.Equal(a, b) })
}

// expectDoms holds the domains of s, by All, by Get and by Len, against those that there must be.
func expectDoms(t *testing.T, s *trail.Store, want ...list) {
	t.Helper()
	if all := s.All(); !sameDoms(all, want) {
		t.Fatalf("All = %v, not %v", all, want)
	}
	if n := s.Len(); n != len(want) {
		t.Fatalf("Len = %d, not %d", n, len(want))
	}
	for x, d := range want {
		if got := s.Get(x); !slices.Equal(got, d) {
			t.Fatalf("Get(%d) = %v, not %v", x, got, d)
		}
	}
	for _, x := range wrongPlaces(len(want)) {
		if got := s.Get(x); (x < 0 || x >= len(want)) && len(got) != 0 {
			t.Fatalf("Get(%d) = %v", x, got)
		}
	}
}

// A window is some integers that follow one another. Its sets are told by bits: bit i is the value from + i.
type window struct {
	from int64
	n    int
}

// windows stand at both ends of what is permitted, and between them.
func windows(n int) []window {
	return []window{{-most, n}, {-4, n}, {most - int64(n) + 1, n}}
}

// form is the set of some values: a range for each run of bits.
func (w window) form(bits uint64) list {
	var l list
	for i := range w.n {
		if bits>>i&1 == 0 {
			continue
		}
		v := w.from + int64(i)
		if i > 0 && bits>>(i-1)&1 == 1 {
			l[len(l)-1].Hi = v
		} else {
			l = append(l, api.Range{Lo: v, Hi: v})
		}
	}
	return l
}

// A judge is a store by the words of the chapter: domains told by bits, and all of them kept for each level.
type judge struct {
	w       window
	doms    []uint64
	levels  [][]uint64
	changed []bool
}

func newJudge(w window, doms ...uint64) *judge {
	return &judge{w: w, doms: slices.Clone(doms), changed: make([]bool, len(doms))}
}

func (j *judge) forms() []list {
	var l []list
	for _, bits := range j.doms {
		l = append(l, j.w.form(bits))
	}
	return l
}

func (j *judge) store(t *testing.T) *trail.Store {
	t.Helper()
	return newStore(t, j.forms()...)
}

func (j *judge) narrow(x int, bits uint64) (bool, api.Errno) {
	if x < 0 || x >= len(j.doms) {
		return false, api.ErrArg
	}
	rest := j.doms[x] & bits
	if rest == 0 {
		return false, api.ErrFail
	}
	if rest == j.doms[x] {
		return false, api.OK
	}
	j.doms[x], j.changed[x] = rest, true
	return true, api.OK
}

func (j *judge) push() api.Errno {
	if len(j.levels) == maxLevel {
		return api.ErrBig
	}
	j.levels = append(j.levels, slices.Clone(j.doms))
	return api.OK
}

func (j *judge) pop() api.Errno {
	if len(j.levels) == 0 {
		return api.ErrNone
	}
	j.doms = j.levels[len(j.levels)-1]
	j.levels = j.levels[:len(j.levels)-1]
	clear(j.changed)
	return api.OK
}

func (j *judge) ask() []int {
	var all []int
	for x, changed := range j.changed {
		if changed {
			all = append(all, x)
		}
	}
	clear(j.changed)
	return all
}

// expect holds the domains and the levels of s against the judge's.
func (j *judge) expect(t *testing.T, s *trail.Store) {
	t.Helper()
	expectDoms(t, s, j.forms()...)
	expectLevel(t, s, len(j.levels))
}

// narrowBoth narrows s and the judge alike.
func (j *judge) narrowBoth(t *testing.T, s *trail.Store, x int, bits uint64) {
	t.Helper()
	want, wantErr := j.narrow(x, bits)
	expectNarrow(t, s, x, j.w.form(bits), want, wantErr)
}

// step does something by chance to s and to the judge; pushes tells how many of ten steps push a level.
func (j *judge) step(t *testing.T, s *trail.Store, random *rand.Rand, pushes int) {
	t.Helper()
	x := random.IntN(len(j.doms)+2) - 1
	switch n := random.IntN(10); {
	case n < pushes:
		expectPush(t, s, j.push())
	case n == 8:
		expectPop(t, s, j.pop())
	case n == 9 && random.IntN(2) == 0:
		expectChanged(t, s, j.ask()...)
	case n == 9:
		expectNarrow(t, s, x, wrongs()[random.IntN(len(wrongs()))], false, api.ErrArg)
	default:
		// Most values stay, so that a domain is narrowed several times.
		j.narrowBoth(t, s, x, (random.Uint64()|random.Uint64()|random.Uint64())&(1<<j.w.n-1))
	}
}
