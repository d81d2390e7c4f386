package linear

import (
	"touchstone/api"
	"touchstone/set"
)

// Each of these narrows d, whose domains are not empty, in its place; false if it fails.

func atMost(c api.Con, d [][]api.Range) bool {
	// All terms are taken before anything is narrowed: each is cut with the ends of the domains as they were.
	terms := termsOf(c, d)
	room := c.C - least(terms)
	if room < 0 {
		return false
	}
	for _, t := range terms {
		cut(t, room, d)
		if len(d[t.x]) == 0 {
			return false
		}
	}
	return true
}

// cut takes from a term's variable the values that would make the sum greater by more than room,
// which is not negative, so that the quotients are rounded down.
func cut(t term, room int64, d [][]api.Range) {
	switch {
	case t.n > 0:
		d[t.x] = set.Cut(d[t.x], t.lo, t.lo+room/t.n)
	case t.n < 0:
		d[t.x] = set.Cut(d[t.x], t.hi-room/-t.n, t.hi)
	}
}

func equal(c api.Con, d [][]api.Range) bool {
	return atMost(c, d) && atMost(negated(c), d)
}

func negated(c api.Con) api.Con {
	n := api.Con{Kind: c.Kind, X: c.X, C: -c.C}
	for _, a := range c.A {
		n.A = append(n.A, -a)
	}
	return n
}

func notEqual(c api.Con, d [][]api.Range) bool {
	var open []term
	rest := c.C
	for _, t := range termsOf(c, d) {
		switch {
		case t.n == 0:
		case t.fixed():
			rest -= t.n * t.lo
		default:
			open = append(open, t)
		}
	}
	if len(open) == 0 {
		return rest != 0
	}
	if len(open) > 1 || rest%open[0].n != 0 {
		return true
	}
	x := open[0].x
	// An open variable has two values at least, so that one is left.
	d[x] = set.Without(d[x], rest/open[0].n)
	return true
}
