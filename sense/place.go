package sense

import (
	"touchstone/api"
	"touchstone/model"
)

// placed is a constraint with the values of its variables beside it: v[i] is that of X[i].
type placed struct {
	api.Con
	v []int64
}

// place puts the values of a constraint's variables beside it; false if it is not well-formed for a.
func place(c api.Con, a []int64) (placed, bool) {
	// A list that is too long is not worth the memory that its values would take.
	if len(c.X) > api.MaxArity {
		return placed{}, false
	}
	p := placed{Con: c}
	for _, x := range c.X {
		if x < 0 || x >= len(a) {
			return placed{}, false
		}
		p.v = append(p.v, a[x])
	}
	if !p.right() {
		return placed{}, false
	}
	return p, true
}

// right reports whether the constraint is well-formed for its values. That is so just if it is valid
// in a model whose variables have those values alone; there may be more values than a model may have
// variables, so the model is made of only those that stand in X, one for each place.
func (p placed) right() bool {
	c := p.Con
	c.X = nil
	var doms [][]api.Range
	for i, v := range p.v {
		c.X = append(c.X, i)
		doms = append(doms, []api.Range{{Lo: v, Hi: v}})
	}
	return model.Right(api.Model{Doms: doms, Cons: []api.Con{c}})
}
