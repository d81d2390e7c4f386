package logic

import (
	"slices"

	"touchstone/api"
	"touchstone/set"
)

// A state is what is known of a boolean variable. If it is known to have one value, the state is that value.
type state int64

const (
	no state = iota
	yes
	open
)

// not is the other one of no and yes.
func not(s state) state {
	return yes - s
}

// places are the positions of a constraint, and the domains that are narrowed. A variable may stand at
// several positions: so its state is asked anew wherever it is needed.
type places struct {
	x    []int
	doms [][]api.Range
}

func placesOf(c api.Con, d [][]api.Range) places {
	p := places{x: c.X, doms: make([][]api.Range, len(d))}
	for x := range d {
		p.doms[x] = slices.Clone(d[x])
	}
	return p
}

// is tells the state at a position; its variable is boolean.
func (p places) is(at int) state {
	ends, _ := set.Ends(p.doms[p.x[at]])
	if ends.Lo != ends.Hi {
		return open
	}
	return state(ends.Lo)
}

// set gives the variable at a position this one value; false if it doesn't have it.
func (p places) set(at int, s state) bool {
	x := p.x[at]
	p.doms[x] = set.Cut(p.doms[x], int64(s), int64(s))
	return len(p.doms[x]) > 0
}

// setFirst does so at the first n positions, in order.
func (p places) setFirst(n int, s state) bool {
	ok := true
	for at := range n {
		ok = ok && p.set(at, s)
	}
	return ok
}

// count tells at how many of the first n positions the state is s.
func (p places) count(n int, s state) int {
	count := 0
	for at := range n {
		if p.is(at) == s {
			count++
		}
	}
	return count
}

// onlyOpen tells which of the first n positions is the only open one; false if there is none, or more than one.
func (p places) onlyOpen(n int) (int, bool) {
	if p.count(n, open) != 1 {
		return 0, false
	}
	at := 0
	for p.is(at) != open {
		at++
	}
	return at, true
}
