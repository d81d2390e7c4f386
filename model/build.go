package model

import (
	"cmp"
	"slices"
	"strings"

	"touchstone/api"
	"touchstone/parse"
	"touchstone/show"
)

// entry is what a name stands for: the kind of its item, whether it is of truth values, and its
// numbers (of a Par or a ParArray) or its variables (of a Var or a VarArray).
type entry struct {
	kind    int
	truth   bool
	numbers []int64
	vars    []int
}

// builder holds what the items so far have made: their names, the fixed variables by their values,
// the problem, and whether it is asked for anything.
type builder struct {
	names   map[string]entry
	fixed   map[int64]int
	problem Problem
	asked   bool
}

// item adds an item.
func (b *builder) item(x parse.Item) api.Errno {
	if !show.Right(x) {
		return api.ErrArg
	}
	if _, known := b.names[x.Name]; known && x.Kind != parse.Constraint && x.Kind != parse.Solve {
		return api.ErrTwice
	}
	if b.asked {
		return api.ErrForm
	}
	switch x.Kind {
	case parse.Par:
		return b.parameter(x)
	case parse.Var:
		return b.declaration(x)
	case parse.ParArray:
		return b.constantArray(x)
	case parse.VarArray:
		return b.variableArray(x)
	case parse.Constraint:
		return b.constraint(x)
	}
	return b.request(x)
}

func (b *builder) parameter(x parse.Item) api.Errno {
	n := x.Vals[0].N
	if !isValue(n) {
		return api.ErrArg
	}
	b.names[x.Name] = entry{kind: x.Kind, truth: x.Bool, numbers: []int64{n}}
	return api.OK
}

// declaration adds a Var.
func (b *builder) declaration(x parse.Item) api.Errno {
	dom, err := domainOf(x)
	if err != api.OK {
		return err
	}
	v, err := b.newVariable(dom)
	if err != api.OK {
		return err
	}
	if len(x.Vals) > 0 {
		// The name is not known yet: a variable can't be its own value.
		value, err := b.variable(x.Vals[0], x.Bool)
		if err != api.OK {
			return err
		}
		if err := b.add(api.Con{Kind: api.Same, X: []int{v, value}}); err != api.OK {
			return err
		}
	}
	return b.define(x, []int{v})
}

// domainOf returns the domain of a Var.
func domainOf(x parse.Item) ([]api.Range, api.Errno) {
	if x.Bool {
		return []api.Range{{Lo: 0, Hi: 1}}, api.OK
	}
	for _, r := range x.Dom {
		if r.Lo > r.Hi || !isValue(r.Lo) || !isValue(r.Hi) {
			return nil, api.ErrArg
		}
	}
	return union(x.Dom), api.OK
}

// union returns the values of some ranges, in any order, as a valid domain.
func union(l []api.Range) []api.Range {
	var dom []api.Range
	for _, r := range slices.SortedFunc(slices.Values(l), byLo) {
		last := len(dom) - 1
		if last >= 0 && r.Lo <= dom[last].Hi+1 {
			dom[last].Hi = max(dom[last].Hi, r.Hi)
		} else {
			dom = append(dom, r)
		}
	}
	return dom
}

func byLo(a, b api.Range) int {
	return cmp.Compare(a.Lo, b.Lo)
}

// newVariable adds a variable to the model.
func (b *builder) newVariable(dom []api.Range) (int, api.Errno) {
	v := len(b.problem.M.Doms)
	if v == api.MaxVars {
		return 0, api.ErrBig
	}
	b.problem.M.Doms = append(b.problem.M.Doms, dom)
	return v, api.OK
}

// add adds a constraint to the model.
func (b *builder) add(c api.Con) api.Errno {
	if len(b.problem.M.Cons) == api.MaxCons {
		return api.ErrBig
	}
	b.problem.M.Cons = append(b.problem.M.Cons, c)
	return api.OK
}

// define makes the name of a Var or a VarArray known, and prints it if it is to be printed.
func (b *builder) define(x parse.Item, vars []int) api.Errno {
	if x.Out {
		if len(b.problem.Outs) == api.MaxVars {
			return api.ErrBig
		}
		b.problem.Outs = append(b.problem.Outs, Out{
			Name:  strings.Clone(x.Name),
			Bool:  x.Bool,
			Array: x.Kind == parse.VarArray,
			X:     slices.Clone(vars),
		})
	}
	b.names[x.Name] = entry{kind: x.Kind, truth: x.Bool, vars: vars}
	return api.OK
}

// isWhole tells whether an array has as many elements as its size says, and none that is too great.
func isWhole(x parse.Item) bool {
	for _, element := range x.Vals {
		if element.Kind == parse.Num && !isValue(element.N) {
			return false
		}
	}
	return int64(len(x.Vals)) == x.Size
}

func (b *builder) constantArray(x parse.Item) api.Errno {
	if !isWhole(x) {
		return api.ErrArg
	}
	numbers, err := each(x.Vals, x.Bool, b.constant)
	if err != api.OK {
		return err
	}
	b.names[x.Name] = entry{kind: x.Kind, truth: x.Bool, numbers: numbers}
	return api.OK
}

func (b *builder) variableArray(x parse.Item) api.Errno {
	if !isWhole(x) {
		return api.ErrArg
	}
	vars, err := each(x.Vals, x.Bool, b.variable)
	if err != api.OK {
		return err
	}
	return b.define(x, vars)
}

func (b *builder) constraint(x parse.Item) api.Errno {
	kind, shapes := formOf(x.Name)
	if kind == 0 {
		return api.ErrKnow
	}
	if !fitAll(shapes, x.Vals) {
		return api.ErrType
	}
	c := api.Con{Kind: kind}
	for i, s := range shapes {
		if err := b.argument(&c, s, x.Vals[i]); err != api.OK {
			return err
		}
	}
	if !hasCounts(c) || !hasSigns(c) {
		return api.ErrArg
	}
	if len(c.X) > api.MaxArity {
		return api.ErrBig
	}
	return b.add(c)
}

// request adds what is asked for.
func (b *builder) request(x parse.Item) api.Errno {
	b.asked = true
	if x.Ask == api.Satisfy {
		return api.OK
	}
	e, known := b.names[x.Name]
	if !known {
		return api.ErrName
	}
	if e.kind != parse.Var || e.truth {
		return api.ErrType
	}
	b.problem.M.Ask, b.problem.M.Goal = x.Ask, e.vars[0]
	return api.OK
}
