package parse

import "touchstone/api"

// maxItems is the greatest number of items of a text.
const maxItems = 512

// items reads all items.
func (r *reader) items() []Item {
	var l []Item
	for !r.done() {
		at := r.place()
		// A token that begins no item is wrong by itself, however many items stand before it.
		first := r.choose("int", "bool", "var", "array", "constraint", "solve")
		if len(l) == maxItems {
			panic(fault{at: at, err: api.ErrBig})
		}
		l = append(l, r.item(first))
		r.follow(";")
	}
	return l
}

// item reads an item from behind its first word up to its semicolon.
func (r *reader) item(first string) Item {
	switch first {
	case "var":
		return r.variable()
	case "array":
		return r.array()
	case "constraint":
		return r.constraint()
	case "solve":
		return r.request()
	}
	return r.parameter(first == "bool")
}

func (r *reader) parameter(truth bool) Item {
	x := Item{Kind: Par, Bool: truth}
	r.follow(":")
	x.Name = r.name()
	r.follow("=")
	x.Vals = []Expr{r.constant(truth)}
	return x
}

// constant reads a truth value or a number.
func (r *reader) constant(truth bool) Expr {
	if !truth {
		return Expr{Kind: Num, N: r.number()}
	}
	if r.choose("true", "false") == "true" {
		return Expr{Kind: Bool, N: 1}
	}
	return Expr{Kind: Bool}
}

func (r *reader) variable() Item {
	x := Item{Kind: Var}
	x.Bool = r.skip("bool")
	if !x.Bool {
		x.Dom = r.domain()
	}
	r.follow(":")
	x.Name = r.name()
	x.Out = r.skip("::")
	if x.Out {
		r.follow("output_var")
	}
	if r.skip("=") {
		x.Vals = []Expr{r.plain()}
	}
	return x
}

// domain reads the domain of a variable of numbers.
func (r *reader) domain() []api.Range {
	if r.skip("{") {
		return series(r, "}", api.MaxRanges, r.single)
	}
	lo := r.number()
	r.follow("..")
	return []api.Range{{Lo: lo, Hi: r.number()}}
}

// single reads a number as the range that holds it alone.
func (r *reader) single() api.Range {
	n := r.number()
	return api.Range{Lo: n, Hi: n}
}

func (r *reader) array() Item {
	x := Item{Kind: ParArray, Size: r.span()}
	r.follow("of")
	if r.skip("var") {
		x.Kind = VarArray
	}
	x.Bool = r.choose("int", "bool") == "bool"
	r.follow(":")
	x.Name = r.name()
	x.Out = x.Kind == VarArray && r.skip("::")
	if x.Out {
		r.printed(x.Size)
	}
	r.follow("=")
	x.Vals = r.list()
	return x
}

// printed reads how an array of that size is to be printed: over its whole size.
func (r *reader) printed(size int64) {
	r.follow("output_array", "(", "[")
	r.exactly(1)
	r.follow("..")
	r.exactly(size)
	r.follow("]", ")")
}

func (r *reader) constraint() Item {
	x := Item{Kind: Constraint, Name: r.name()}
	r.follow("(")
	x.Vals = r.exprs(")", r.expr)
	return x
}

// request reads what is asked for.
func (r *reader) request() Item {
	x := Item{Kind: Solve}
	switch r.choose("satisfy", "minimize", "maximize") {
	case "minimize":
		x.Ask = api.Minimize
	case "maximize":
		x.Ask = api.Maximize
	}
	if x.Ask != api.Satisfy {
		x.Name = r.name()
	}
	return x
}
