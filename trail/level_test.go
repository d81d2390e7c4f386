package trail_test

import (
	"testing"

	"touchstone/api"
)

// The chapter's example.
func TestExample(t *testing.T) {
	s := newStore(t, ranges(1, 5))
	expectPush(t, s, api.OK)
	expectNarrow(t, s, 0, ranges(3, 9), true, api.OK)
	expectDoms(t, s, ranges(3, 5))
	expectChanged(t, s, 0)
	expectNarrow(t, s, 0, ranges(1, 4), true, api.OK)
	expectDoms(t, s, ranges(3, 4))
	expectNarrow(t, s, 0, ranges(7, 9), false, api.ErrFail)
	expectPop(t, s, api.OK)
	expectDoms(t, s, ranges(1, 5))
	expectChanged(t, s)
	expectPop(t, s, api.ErrNone)
}

// P10.3: as many levels as there can be, and one more, with a domain narrowed at each.
func TestMostLevels(t *testing.T) {
	s := newStore(t, ranges(0, 1000), ranges(0, 1))
	for level := range int64(maxLevel) {
		expectLevel(t, s, int(level))
		expectPush(t, s, api.OK)
		expectNarrow(t, s, 0, ranges(level+1, most), true, api.OK)
	}
	for range 3 {
		expectPush(t, s, api.ErrBig)
		expectLevel(t, s, maxLevel)
		expectDoms(t, s, ranges(maxLevel, 1000), ranges(0, 1))
	}
	expectNarrow(t, s, 0, ranges(900, 901), true, api.OK)
	expectChanged(t, s, 0)
	expectPop(t, s, api.OK)
	expectDoms(t, s, ranges(maxLevel-1, 1000), ranges(0, 1))
	expectPush(t, s, api.OK)
	expectPush(t, s, api.ErrBig)
	for level := int64(maxLevel) - 1; level >= 0; level-- {
		expectPop(t, s, api.OK)
		expectLevel(t, s, int(level))
		expectDoms(t, s, ranges(level, 1000), ranges(0, 1))
	}
	expectPop(t, s, api.ErrNone)
	expectPush(t, s, api.OK)
	expectLevel(t, s, 1)
}

// P10.3: a Push that is refused leaves the changed variables as they are (R5).
func TestRefusedPush(t *testing.T) {
	s := newStore(t, ranges(0, 9), ranges(0, 9))
	for range maxLevel {
		expectPush(t, s, api.OK)
	}
	expectNarrow(t, s, 1, ranges(2, 3), true, api.OK)
	expectPush(t, s, api.ErrBig)
	expectChanged(t, s, 1)
	expectPop(t, s, api.OK)
	expectDoms(t, s, ranges(0, 9), ranges(0, 9))
}

// P10.3: Pop with no level changes no domain, and the changed variables stay (R5).
func TestRefusedPop(t *testing.T) {
	s := newStore(t, ranges(0, 9), ranges(0, 9))
	expectPop(t, s, api.ErrNone)
	expectNarrow(t, s, 1, ranges(2, 3), true, api.OK)
	for range 3 {
		expectPop(t, s, api.ErrNone)
		expectLevel(t, s, 0)
		expectDoms(t, s, ranges(0, 9), ranges(2, 3))
	}
	expectChanged(t, s, 1)
	expectPush(t, s, api.OK)
	expectNarrow(t, s, 0, ranges(4, 4), true, api.OK)
	expectPop(t, s, api.OK)
	expectPop(t, s, api.ErrNone)
	expectDoms(t, s, ranges(0, 9), ranges(2, 3))
}

// P10.3: what is narrowed at no level stays so.
func TestNarrowedBelowLevels(t *testing.T) {
	s := newStore(t, ranges(0, 9), ranges(0, 9), ranges(0, 9))
	expectNarrow(t, s, 0, ranges(0, 5), true, api.OK)
	expectPush(t, s, api.OK)
	expectNarrow(t, s, 0, ranges(3, 9), true, api.OK)
	expectNarrow(t, s, 1, ranges(3, 9), true, api.OK)
	expectDoms(t, s, ranges(3, 5), ranges(3, 9), ranges(0, 9))
	expectPop(t, s, api.OK)
	expectDoms(t, s, ranges(0, 5), ranges(0, 9), ranges(0, 9))
	expectNarrow(t, s, 2, ranges(1, 1), true, api.OK)
	expectPush(t, s, api.OK)
	expectPop(t, s, api.OK)
	expectDoms(t, s, ranges(0, 5), ranges(0, 9), ranges(1, 1))
}

// P10.3: Pops behind several Pushes, with domains narrowed once, several times and not at all between them.
func TestPopsBehindPushes(t *testing.T) {
	s := newStore(t, ranges(0, 9), ranges(0, 9), ranges(0, 9))
	expectPush(t, s, api.OK)
	expectNarrow(t, s, 0, ranges(1, 9), true, api.OK)
	expectNarrow(t, s, 0, ranges(2, 9), true, api.OK)
	expectPush(t, s, api.OK)
	expectPush(t, s, api.OK)
	expectNarrow(t, s, 0, ranges(3, 9), true, api.OK)
	expectNarrow(t, s, 1, ranges(0, 4, 6, 9), true, api.OK)
	expectNarrow(t, s, 0, ranges(4, 9), true, api.OK)
	expectPush(t, s, api.OK)
	expectNarrow(t, s, 1, ranges(0, 2, 4, 9), true, api.OK)
	expectNarrow(t, s, 2, ranges(7, 7), true, api.OK)
	expectLevel(t, s, 4)
	expectDoms(t, s, ranges(4, 9), ranges(0, 2, 4, 4, 6, 9), ranges(7, 7))
	expectPop(t, s, api.OK)
	expectDoms(t, s, ranges(4, 9), ranges(0, 4, 6, 9), ranges(0, 9))
	expectPop(t, s, api.OK)
	expectDoms(t, s, ranges(2, 9), ranges(0, 9), ranges(0, 9))
	expectLevel(t, s, 2)
	expectNarrow(t, s, 0, ranges(8, 8), true, api.OK)
	expectPop(t, s, api.OK)
	expectDoms(t, s, ranges(2, 9), ranges(0, 9), ranges(0, 9))
	expectPop(t, s, api.OK)
	expectDoms(t, s, ranges(0, 9), ranges(0, 9), ranges(0, 9))
	expectPop(t, s, api.ErrNone)
}

// P10.3: a level that takes the place of one that was removed restores what was there when it was pushed itself.
func TestLevelsReplaced(t *testing.T) {
	s := newStore(t, ranges(0, 99))
	expectPush(t, s, api.OK)
	expectNarrow(t, s, 0, ranges(0, 50), true, api.OK)
	expectPop(t, s, api.OK)
	expectNarrow(t, s, 0, ranges(10, 99), true, api.OK)
	expectPush(t, s, api.OK)
	expectNarrow(t, s, 0, ranges(0, 20), true, api.OK)
	expectDoms(t, s, ranges(10, 20))
	expectPop(t, s, api.OK)
	expectDoms(t, s, ranges(10, 99))
	expectPush(t, s, api.OK)
	expectPop(t, s, api.OK)
	expectDoms(t, s, ranges(10, 99))
}

// P10.3: a Narrow that is refused at a level, or that finds nothing to remove, leaves Pop what it was.
func TestPopBehindRefusedNarrow(t *testing.T) {
	s := newStore(t, ranges(0, 9))
	expectPush(t, s, api.OK)
	expectNarrow(t, s, 0, ranges(0, 6), true, api.OK)
	expectPush(t, s, api.OK)
	expectNarrow(t, s, 0, ranges(8, 9), false, api.ErrFail)
	expectNarrow(t, s, 0, ranges(0, 8), false, api.OK)
	expectNarrow(t, s, 0, ranges(2, 1), false, api.ErrArg)
	expectNarrow(t, s, 1, ranges(1, 1), false, api.ErrArg)
	expectPop(t, s, api.OK)
	expectDoms(t, s, ranges(0, 6))
	expectPop(t, s, api.OK)
	expectDoms(t, s, ranges(0, 9))
}
