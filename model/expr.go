package model

import (
	"slices"

	"touchstone/api"
	"touchstone/parse"
)

// argument adds an argument of a shape to a constraint.
func (b *builder) argument(c *api.Con, s shape, x parse.Expr) api.Errno {
	switch s {
	case intConstant:
		n, err := b.constant(x, false)
		c.C = n
		return err
	case intConstants:
		numbers, err := b.constants(x)
		c.A = append(c.A, numbers...)
		return err
	case intVariable, boolVariable:
		v, err := b.variable(x, s == boolVariable)
		c.X = append(c.X, v)
		return err
	}
	vars, err := b.variables(x, s != intVariables)
	c.X = append(c.X, vars...)
	switch s {
	case clauseTrue:
		c.A = append(c.A, slices.Repeat([]int64{1}, len(vars))...)
	case clauseFalse:
		c.A = append(c.A, slices.Repeat([]int64{-1}, len(vars))...)
	}
	return err
}

// each returns what take makes of the elements, in their order, or the first error.
func each[E, V any](l []E, truth bool, take func(E, bool) (V, api.Errno)) ([]V, api.Errno) {
	var all []V
	for _, element := range l {
		v, err := take(element, truth)
		if err != api.OK {
			return nil, err
		}
		all = append(all, v)
	}
	return all, api.OK
}

// constant returns the value of a constant, of ints or of truth values.
func (b *builder) constant(x parse.Expr, truth bool) (int64, api.Errno) {
	if x.Kind == parse.Ref {
		e, known := b.names[x.S]
		if !known {
			return 0, api.ErrName
		}
		if e.kind != parse.Par || e.truth != truth {
			return 0, api.ErrType
		}
		return e.numbers[0], api.OK
	}
	if truth != (x.Kind == parse.Bool) {
		return 0, api.ErrType
	}
	if !isValue(x.N) {
		return 0, api.ErrArg
	}
	return x.N, api.OK
}

// variable returns the variable that an expression of ints or of truth values denotes.
func (b *builder) variable(x parse.Expr, truth bool) (int, api.Errno) {
	if x.Kind == parse.Ref {
		if e := b.names[x.S]; e.kind == parse.Var && e.truth == truth {
			return e.vars[0], api.OK
		}
	}
	n, err := b.constant(x, truth)
	if err != api.OK {
		return 0, err
	}
	return b.fixedVariable(n)
}

// fixedVariable returns the variable that has only the value n. Ints and truth values share it.
func (b *builder) fixedVariable(n int64) (int, api.Errno) {
	if v, known := b.fixed[n]; known {
		return v, api.OK
	}
	v, err := b.newVariable([]api.Range{{Lo: n, Hi: n}})
	if err != api.OK {
		return 0, err
	}
	b.fixed[n] = v
	return v, api.OK
}

// array returns what a name stands for that must be that of an array of one of these kinds.
func (b *builder) array(name string, truth bool, kinds ...int) (entry, api.Errno) {
	e, known := b.names[name]
	if !known {
		return entry{}, api.ErrName
	}
	if !slices.Contains(kinds, e.kind) || e.truth != truth {
		return entry{}, api.ErrType
	}
	return e, api.OK
}

// constants returns the numbers of a list, or of the array that a name denotes.
func (b *builder) constants(x parse.Expr) ([]int64, api.Errno) {
	if x.Kind == parse.List {
		return each(x.L, false, b.constant)
	}
	e, err := b.array(x.S, false, parse.ParArray)
	return e.numbers, err
}

// variables returns the variables of a list, or of the array that a name denotes.
func (b *builder) variables(x parse.Expr, truth bool) ([]int, api.Errno) {
	if x.Kind == parse.List {
		return each(x.L, truth, b.variable)
	}
	e, err := b.array(x.S, truth, parse.ParArray, parse.VarArray)
	if err != api.OK || e.kind == parse.VarArray {
		return e.vars, err
	}
	return each(e.numbers, truth, func(n int64, _ bool) (int, api.Errno) {
		return b.fixedVariable(n)
	})
}
