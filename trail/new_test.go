package trail_test

import (
	"slices"
	"testing"

	"touchstone/api"
	"touchstone/trail"
)

// same is a number of equal domains.
func same(n int, d list) []list {
	var doms []list
	for range n {
		doms = append(doms, slices.Clone(d))
	}
	return doms
}

// expectFresh asks all of a store with which nothing has been done.
func expectFresh(t *testing.T, doms []list) {
	t.Helper()
	s := newStore(t, doms...)
	expectDoms(t, s, doms...)
	expectLevel(t, s, 0)
	expectChanged(t, s)
	expectPop(t, s, api.ErrNone)
}

// P10.1: no variable, one, and as many as there can be.
func TestNewNumbers(t *testing.T) {
	expectFresh(t, nil)
	expectFresh(t, []list{})
	for n := range 65 {
		expectFresh(t, same(n, ranges(1, 3, 5, 9)))
	}
	for _, n := range []int{65, 66, 100, 1000} {
		for _, d := range []list{ranges(1, 3), nil, ranges(2, 1)} {
			if trail.New(same(n, d)) != nil {
				t.Errorf("New of %d doms: a store", n)
			}
		}
	}
}

// P10.1: a store without variables is one of which all can be asked.
func TestNewWithoutVariables(t *testing.T) {
	s := newStore(t)
	expectNarrow(t, s, 0, ranges(1, 1), false, api.ErrArg)
	expectNarrow(t, s, -1, nil, false, api.ErrArg)
	expectPush(t, s, api.OK)
	expectLevel(t, s, 1)
	expectDoms(t, s)
	expectPop(t, s, api.OK)
	expectPop(t, s, api.ErrNone)
	expectChanged(t, s)
}

// P10.1: domains of one value, at the limits, of many ranges, and different ones.
func TestNewDomains(t *testing.T) {
	var many list
	for v := int64(-3000); v < 3000; v += 3 {
		many = append(many, api.Range{Lo: v, Hi: v + 1})
	}
	doms := []list{
		ranges(5, 5), ranges(1, 3, 5, 5), ranges(-most, -most), ranges(most, most), ranges(-most, most), ranges(-most, -most, most, most),
		ranges(0, 1), many, ranges(-7, -7, -5, -5, -3, -1, 1, 1),
	}
	for _, d := range doms {
		expectFresh(t, []list{d})
	}
	expectFresh(t, doms)
}

// P10.1: a dom that is empty, or not a set, at each place.
func TestNewWrongDoms(t *testing.T) {
	for _, wrong := range append(wrongs(), nil, list{}) {
		for _, n := range []int{1, 2, 3, 64} {
			for x := range n {
				doms := same(n, ranges(1, 3, 7, 9))
				doms[x] = wrong
				if trail.New(doms) != nil {
					t.Errorf("New of %d doms, %v at %d: a store", n, wrong, x)
				}
			}
		}
	}
}
