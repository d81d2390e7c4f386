package arith

import (
	"slices"

	"touchstone/api"
	"touchstone/set"
)

// A domain is that of one variable, which may stand at several positions of a constraint: so it is
// handed on by its address, and its ends are asked anew wherever they are needed.
type domain struct {
	values []api.Range
}

func domainsOf(d [][]api.Range) []domain {
	doms := make([]domain, len(d))
	for x := range d {
		doms[x].values = slices.Clone(d[x])
	}
	return doms
}

func rangesOf(doms []domain) [][]api.Range {
	d := make([][]api.Range, len(doms))
	for x := range doms {
		d[x] = doms[x].values
	}
	return d
}

// variables are the domains at the positions of c.
func variables(c api.Con, doms []domain) []*domain {
	var v []*domain
	for _, x := range c.X {
		v = append(v, &doms[x])
	}
	return v
}

func (d *domain) ends() api.Range {
	ends, _ := set.Ends(d.values)
	return ends
}

func (d *domain) lo() int64 {
	return d.ends().Lo
}

func (d *domain) hi() int64 {
	return d.ends().Hi
}

func (d *domain) has(v int64) bool {
	return set.Has(d.values, v)
}

// Each of these narrows a domain in its place; false if no value is left.

func (d *domain) cut(lo, hi int64) bool {
	d.values = set.Cut(d.values, lo, hi)
	return len(d.values) > 0
}

func (d *domain) atLeast(lo int64) bool {
	return d.cut(lo, d.hi())
}

func (d *domain) atMost(hi int64) bool {
	return d.cut(d.lo(), hi)
}

func (d *domain) lose(v int64) bool {
	d.values = set.Without(d.values, v)
	return len(d.values) > 0
}

// loseNearer loses all values that are nearer to 0 than n, which is above 0.
func (d *domain) loseNearer(n int64) bool {
	below := set.Cut(d.values, d.lo(), -n)
	above := set.Cut(d.values, n, d.hi())
	// At least 0 is missing between both, so that they are one set as they stand.
	d.values = append(below, above...)
	return len(d.values) > 0
}
