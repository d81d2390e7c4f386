package trail_test

import (
	"math/rand/v2"
	"testing"

	"touchstone/api"
)

// P10.4: each variable once, in increasing order, however and however often they are narrowed.
func TestChangedOrder(t *testing.T) {
	s := newStore(t, same(64, ranges(0, 99))...)
	for _, x := range []int{5, 63, 0, 5, 17, 63, 5, 1, 40, 0} {
		size := s.Get(x)[0].Hi
		expectNarrow(t, s, x, ranges(0, size-1), true, api.OK)
	}
	expectChanged(t, s, 0, 1, 5, 17, 40, 63)
	expectChanged(t, s)
	for x := 63; x >= 0; x-- {
		expectNarrow(t, s, x, ranges(0, 50), true, api.OK)
	}
	var all []int
	for x := range 64 {
		all = append(all, x)
	}
	expectChanged(t, s, all...)
	expectChanged(t, s)
}

// P10.4: some of the variables, in no order, by chance.
func TestChangedManyOrders(t *testing.T) {
	random := rand.New(rand.NewPCG(10, 4))
	for range 300 {
		n := 1 + random.IntN(64)
		j := newJudge(window{-4, 12}, make([]uint64, n)...)
		for x := range j.doms {
			j.doms[x] = 1<<12 - 1
		}
		s := j.store(t)
		for range 1 + random.IntN(n) {
			j.narrowBoth(t, s, random.IntN(n), random.Uint64()>>52)
		}
		expectChanged(t, s, j.ask()...)
		expectChanged(t, s)
	}
}

// P10.4: Changed called twice; a variable that is narrowed behind Changed is changed again.
func TestChangedAgain(t *testing.T) {
	s := newStore(t, ranges(0, 9), ranges(0, 9), ranges(0, 9))
	expectChanged(t, s)
	expectNarrow(t, s, 2, ranges(0, 8), true, api.OK)
	expectNarrow(t, s, 0, ranges(0, 8), true, api.OK)
	expectChanged(t, s, 0, 2)
	expectChanged(t, s)
	expectNarrow(t, s, 1, ranges(0, 8), true, api.OK)
	expectNarrow(t, s, 0, ranges(0, 7), true, api.OK)
	expectChanged(t, s, 0, 1)
	expectChanged(t, s)
}

// P10.4: a Narrow that returned false, with an error or without, makes nothing changed.
func TestChangedBehindFalse(t *testing.T) {
	s := newStore(t, ranges(0, 9), ranges(0, 9))
	refuse := func() {
		t.Helper()
		expectNarrow(t, s, 0, ranges(0, 9), false, api.OK)
		expectNarrow(t, s, 0, ranges(-5, 10), false, api.OK)
		expectNarrow(t, s, 0, ranges(10, 11), false, api.ErrFail)
		expectNarrow(t, s, 0, nil, false, api.ErrFail)
		expectNarrow(t, s, 0, ranges(2, 1), false, api.ErrArg)
		expectNarrow(t, s, 2, ranges(1, 1), false, api.ErrArg)
		expectNarrow(t, s, -1, ranges(1, 1), false, api.ErrArg)
	}
	refuse()
	expectChanged(t, s)
	expectNarrow(t, s, 1, ranges(3, 4), true, api.OK)
	refuse()
	expectNarrow(t, s, 1, ranges(3, 4), false, api.OK)
	expectChanged(t, s, 1)
	expectNarrow(t, s, 1, ranges(5, 5), false, api.ErrFail)
	expectChanged(t, s)
}

// P10.4: a Push leaves the changed variables as they are; behind a Pop there are none, those from before the Push neither.
func TestChangedAndLevels(t *testing.T) {
	s := newStore(t, ranges(0, 9), ranges(0, 9), ranges(0, 9))
	expectNarrow(t, s, 2, ranges(0, 8), true, api.OK)
	expectPush(t, s, api.OK)
	expectNarrow(t, s, 0, ranges(0, 8), true, api.OK)
	expectChanged(t, s, 0, 2)
	expectNarrow(t, s, 1, ranges(0, 8), true, api.OK)
	expectPop(t, s, api.OK)
	expectChanged(t, s)
	expectNarrow(t, s, 1, ranges(0, 8), true, api.OK)
	expectPush(t, s, api.OK)
	expectPop(t, s, api.OK)
	expectChanged(t, s)
	expectDoms(t, s, ranges(0, 9), ranges(0, 8), ranges(0, 8))
	expectNarrow(t, s, 0, ranges(0, 8), true, api.OK)
	expectChanged(t, s, 0)
}

// P10.4: a variable that a Pop restored, and that is narrowed again, is changed.
func TestChangedBehindPop(t *testing.T) {
	s := newStore(t, ranges(0, 9))
	for range 3 {
		expectPush(t, s, api.OK)
		expectNarrow(t, s, 0, ranges(0, 4), true, api.OK)
		expectChanged(t, s, 0)
		expectPop(t, s, api.OK)
		expectChanged(t, s)
	}
}
