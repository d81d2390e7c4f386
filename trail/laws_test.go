package trail_test

import (
	"math/rand/v2"
	"slices"
	"testing"

	"touchstone/api"
	"touchstone/set"
	"touchstone/trail"
)

// P10.2, P10.3, P10.4: all rows of six calls, of eight that there are, on a store of two variables.
func TestAllShortRows(t *testing.T) {
	calls := []func(*judge, *trail.Store){
		func(j *judge, s *trail.Store) { expectPush(t, s, j.push()) },
		func(j *judge, s *trail.Store) { expectPop(t, s, j.pop()) },
		func(j *judge, s *trail.Store) { expectChanged(t, s, j.ask()...) },
		func(j *judge, s *trail.Store) { j.narrowBoth(t, s, 0, 0b0111) },
		func(j *judge, s *trail.Store) { j.narrowBoth(t, s, 0, 0b1110) },
		func(j *judge, s *trail.Store) { j.narrowBoth(t, s, 0, 0b1000) },
		func(j *judge, s *trail.Store) { j.narrowBoth(t, s, 1, 0b0101) },
		func(j *judge, s *trail.Store) { j.narrowBoth(t, s, 1, 0b0001) },
	}
	for row := range 1 << 18 {
		j := newJudge(window{-2, 4}, 0b1111, 0b1101)
		s := j.store(t)
		for i := range 6 {
			calls[row>>(3*i)&7](j, s)
		}
		if !sameDoms(s.All(), j.forms()) || s.Level() != len(j.levels) || !slices.Equal(s.Changed(), j.ask()) {
			t.Fatalf("behind row %d: %v, %d", row, s.All(), s.Level())
		}
	}
}

// P10.2, P10.3, P10.4: long rows of calls by chance, asked behind each.
func TestLongRows(t *testing.T) {
	random := rand.New(rand.NewPCG(10, 2))
	for round := range 300 {
		j := newJudge(windows(40)[round%3])
		for range 1 + random.IntN(9) {
			j.doms = append(j.doms, 1+random.Uint64N(1<<40-1))
			j.changed = append(j.changed, false)
		}
		s := j.store(t)
		for range 300 {
			j.step(t, s, random, 1+round%4)
			j.expect(t, s)
		}
	}
}

// dig pushes levels, narrows by chance between them, calls itself, and comes back to where it began.
func dig(t *testing.T, s *trail.Store, random *rand.Rand, depth int) {
	t.Helper()
	for range random.IntN(4) {
		narrowByChance(s, random)
		before, level := s.All(), s.Level()
		pushes := 1 + random.IntN(3)
		for range pushes {
			expectPush(t, s, api.OK)
			narrowByChance(s, random)
		}
		if depth > 0 {
			dig(t, s, random, depth-1)
			narrowByChance(s, random)
		}
		for range pushes {
			expectPop(t, s, api.OK)
		}
		expectChanged(t, s)
		expectDoms(t, s, before...)
		expectLevel(t, s, level)
	}
}

func narrowByChance(s *trail.Store, random *rand.Rand) {
	for range random.IntN(5) {
		lo := random.Int64N(2000) - 1000
		gap := lo + random.Int64N(300)
		s.Narrow(random.IntN(s.Len()), list{{Lo: lo - 1000, Hi: gap}, {Lo: gap + 2, Hi: gap + 1500}})
	}
}

// P10.5: whatever is narrowed and pushed behind a Push, as many Pops restore the domains.
func TestBack(t *testing.T) {
	random := rand.New(rand.NewPCG(10, 5))
	for range 100 {
		n := 1 + random.IntN(64)
		doms := same(n, ranges(-1000, -500, -498, -1, 1, 1000))
		s := newStore(t, doms...)
		expectPush(t, s, api.OK)
		dig(t, s, random, 4)
		narrowByChance(s, random)
		expectPop(t, s, api.OK)
		expectDoms(t, s, doms...)
		expectPop(t, s, api.ErrNone)
	}
}

// P10.5: all numbers of Pops, up to as many as there can be levels, restore what was there.
func TestBackFromTheDeep(t *testing.T) {
	random := rand.New(rand.NewPCG(10, 55))
	s := newStore(t, same(8, ranges(-most, most))...)
	var kept [][]list
	for range 3 {
		for s.Level() < maxLevel {
			kept = append(kept, s.All())
			expectPush(t, s, api.OK)
			for range random.IntN(3) {
				x := random.IntN(8)
				ends, _ := set.Ends(s.Get(x))
				s.Narrow(x, set.Without(ranges(ends.Lo, ends.Hi-1), ends.Lo+random.Int64N(1000)))
			}
		}
		expectPush(t, s, api.ErrBig)
		for last := s.Level() - 1; last >= 0 && (last > 0 || random.IntN(2) == 0); last-- {
			expectPop(t, s, api.OK)
			expectDoms(t, s, kept[last]...)
			kept = kept[:last]
		}
	}
}

// within reports whether all values of a are values of b.
func within(a, b list) bool {
	return set.Right(a) && set.Same(set.Meet(a, b), a)
}

// P10.6: except by Pop no domain gains a value; no domain is ever empty, and each is a set.
func TestLess(t *testing.T) {
	random := rand.New(rand.NewPCG(10, 6))
	for round := range 60 {
		j := newJudge(windows(30)[round%3], 1<<30-1, 1, 0b101, 1<<29|1, 0x2aaaaaaa)
		s := j.store(t)
		for range 300 {
			before, level := s.All(), s.Level()
			j.step(t, s, random, 2)
			for x, d := range s.All() {
				if len(d) == 0 || !set.Right(d) || s.Level() >= level && !within(d, before[x]) {
					t.Fatalf("the domain %d: %v became %v", x, before[x], d)
				}
			}
		}
	}
}

// R7: every call on a store that New did not create; behind all of them it is the same.
func TestNotCreated(t *testing.T) {
	for range 2 {
		var none *trail.Store
		expectNotCreated(t, none)
		expectNotCreated(t, &trail.Store{})
		expectNotCreated(t, new(trail.Store))
	}
	var zero trail.Store
	for range 2 {
		expectNotCreated(t, &zero)
	}
}

func expectNotCreated(t *testing.T, s *trail.Store) {
	t.Helper()
	expectDoms(t, s)
	expectLevel(t, s, 0)
	expectChanged(t, s)
	expectPop(t, s, api.ErrNil)
	expectPush(t, s, api.ErrNil)
	for _, x := range []int{0, 1, -1, 64} {
		// ErrNil is named first (R2).
		for _, d := range append(wrongs(), nil, ranges(1, 1), ranges(-most, most)) {
			expectNarrow(t, s, x, d, false, api.ErrNil)
		}
	}
	expectLevel(t, s, 0)
	expectPop(t, s, api.ErrNil)
	expectDoms(t, s)
	expectChanged(t, s)
}

// scribble writes to all of a list, also behind its end.
func scribble(d list) {
	d = d[:cap(d)]
	for i := range d {
		d[i] = api.Range{Lo: -77, Hi: -77}
	}
}

// R6: New keeps nothing of what it is given, and changes nothing of it, not even where its lists are one.
func TestNewSharesNothing(t *testing.T) {
	whole := ranges(1, 3, 7, 9, 11, 11, 20, 30)
	doms := []list{whole[:2], whole[:2], whole[1:3], whole}
	want := []list{ranges(1, 3, 7, 9), ranges(1, 3, 7, 9), ranges(7, 9, 11, 11), ranges(1, 3, 7, 9, 11, 11, 20, 30)}
	s := newStore(t, doms...)
	expectPush(t, s, api.OK)
	expectNarrow(t, s, 1, ranges(2, 8), true, api.OK)
	if !sameDoms(doms, want) {
		t.Fatalf("the doms that were handed in became %v", doms)
	}
	scribble(whole)
	doms[0] = ranges(5, 5)
	expectDoms(t, s, want[0], ranges(2, 3, 7, 8), want[2], want[3])
	expectPop(t, s, api.OK)
	expectDoms(t, s, want...)
}

// R6: Narrow keeps nothing of what it is given, and changes nothing of it, not even behind its end.
func TestNarrowSharesNothing(t *testing.T) {
	for _, narrowed := range []list{ranges(1, 9), ranges(2, 8), ranges(1, 3, 5, 9), ranges(-5, 4, 6, 6), ranges(10, 11), ranges(2, 1)} {
		for levels := range 2 {
			s := newStore(t, ranges(1, 9), ranges(1, 9))
			for range levels {
				expectPush(t, s, api.OK)
			}
			whole := append(slices.Clone(narrowed), ranges(50, 60)...)
			s.Narrow(0, whole[:len(narrowed)])
			want := s.All()
			if !slices.Equal(whole, append(slices.Clone(narrowed), ranges(50, 60)...)) {
				t.Fatalf("%v became %v", narrowed, whole)
			}
			scribble(whole)
			expectDoms(t, s, want...)
		}
	}
}

// R6: what Get, All and Changed gave back can be written to, and is the caller's alone.
func TestResultsAreNew(t *testing.T) {
	s := newStore(t, ranges(1, 3, 7, 9), ranges(0, 1), ranges(-most, most))
	expectPush(t, s, api.OK)
	expectNarrow(t, s, 0, ranges(2, 8), true, api.OK)
	want := []list{ranges(2, 3, 7, 8), ranges(0, 1), ranges(-most, most)}
	earlier := s.All()
	for range 2 {
		for x := range s.Len() {
			scribble(s.Get(x))
		}
		all := s.All()
		for x, d := range all {
			scribble(d)
			all[x] = nil
		}
		expectDoms(t, s, want...)
	}
	expectNarrow(t, s, 2, ranges(5, 6), true, api.OK)
	changed := s.Changed()
	for i := range changed {
		changed[i] = 99
	}
	expectChanged(t, s)
	expectPop(t, s, api.OK)
	expectDoms(t, s, ranges(1, 3, 7, 9), ranges(0, 1), ranges(-most, most))
	if !sameDoms(earlier, want) {
		t.Fatalf("the domains that were given back earlier became %v", earlier)
	}
}

// R4: two stores have nothing in common.
func TestStoresApart(t *testing.T) {
	doms := []list{ranges(0, 9), ranges(0, 9)}
	one, other := newStore(t, doms...), newStore(t, doms...)
	expectPush(t, one, api.OK)
	expectNarrow(t, one, 1, ranges(3, 4), true, api.OK)
	expectLevel(t, other, 0)
	expectDoms(t, other, doms...)
	expectChanged(t, other)
	expectPop(t, other, api.ErrNone)
	expectChanged(t, one, 1)
	expectDoms(t, one, ranges(0, 9), ranges(3, 4))
}
