package linear

import (
	"touchstone/api"
	"touchstone/set"
)

// A term is a number of a sum with its variable, and the ends of that variable's domain.
type term struct {
	n, lo, hi int64
	x         int
}

// termsOf goes through the numbers, not the variables: the flag of a Kind that has one stands behind them.
func termsOf(c api.Con, d [][]api.Range) []term {
	var terms []term
	for i, n := range c.A {
		x := c.X[i]
		ends, _ := set.Ends(d[x])
		terms = append(terms, term{n, ends.Lo, ends.Hi, x})
	}
	return terms
}

func (t term) fixed() bool {
	return t.lo == t.hi
}

func least(terms []term) int64 {
	sum := int64(0)
	for _, t := range terms {
		sum += min(t.n*t.lo, t.n*t.hi)
	}
	return sum
}

func greatest(terms []term) int64 {
	sum := int64(0)
	for _, t := range terms {
		sum += max(t.n*t.lo, t.n*t.hi)
	}
	return sum
}
