package model

import "touchstone/api"

// isValue tells whether a number may be a value of a variable, or a number of a constraint.
func isValue(n int64) bool {
	return n >= -api.MaxValue && n <= api.MaxValue
}

func areValues(l []int64) bool {
	for _, n := range l {
		if !isValue(n) {
			return false
		}
	}
	return true
}

func isDomain(dom []api.Range) bool {
	for i, r := range dom {
		if r.Lo > r.Hi || !isValue(r.Lo) || !isValue(r.Hi) {
			return false
		}
		// Ranges that touch would be one, so a number must be left out between them.
		if i > 0 && r.Lo < dom[i-1].Hi+2 {
			return false
		}
	}
	return len(dom) > 0
}

// isBoolean tells whether a valid domain has no values but 0 and 1.
func isBoolean(dom []api.Range) bool {
	return dom[0].Lo >= 0 && dom[len(dom)-1].Hi <= 1
}

// isConstraint tells whether a constraint is valid on variables with these valid domains.
func isConstraint(c api.Con, doms [][]api.Range) bool {
	if !hasCounts(c) || !hasSigns(c) || len(c.X) > api.MaxArity {
		return false
	}
	if !areValues(c.A) || !isValue(c.C) || c.C != 0 && !takesNumber(c.Kind) {
		return false
	}
	for _, x := range c.X {
		if !isVariable(x, doms) {
			return false
		}
	}
	for _, x := range booleans(c) {
		if !isBoolean(doms[x]) {
			return false
		}
	}
	return true
}

func isVariable(x int, doms [][]api.Range) bool {
	return x >= 0 && x < len(doms)
}

// takesNumber tells whether the constraints of a kind have a number C.
func takesNumber(kind int) bool {
	return kind >= api.LinEq && kind <= api.LinLeImp || kind == api.Cumulative
}

// hasCounts tells whether a constraint has as many variables and numbers as its kind asks for. How
// many variables any constraint may have is not asked.
func hasCounts(c api.Con) bool {
	x, a := len(c.X), len(c.A)
	switch c.Kind {
	case api.LinEq, api.LinLe, api.LinNe, api.Clause:
		return x == a
	case api.LinEqReif, api.LinLeReif, api.LinLeImp:
		return x == a+1
	case api.Times, api.Min, api.Max, api.Xor:
		return x == 3 && a == 0
	case api.Abs, api.Same:
		return x == 2 && a == 0
	case api.And, api.Or:
		return x >= 1 && a == 0
	case api.Element:
		return x == 2 && a >= 1 && a <= api.MaxTable
	case api.VarElement:
		return x >= 3 && a == 0
	case api.AllDiff:
		return a == 0
	case api.Cumulative:
		return a == 2*x
	}
	return false
}

// hasSigns tells whether the numbers of a Clause are signs, and those of a Cumulative not negative.
func hasSigns(c api.Con) bool {
	for _, n := range c.A {
		if c.Kind == api.Clause && n != 1 && n != -1 || c.Kind == api.Cumulative && n < 0 {
			return false
		}
	}
	return c.Kind != api.Cumulative || c.C >= 0
}

// booleans are those variables of a constraint that must be boolean.
func booleans(c api.Con) []int {
	switch c.Kind {
	case api.LinEqReif, api.LinLeReif, api.LinLeImp:
		return c.X[len(c.X)-1:]
	case api.Clause, api.And, api.Or, api.Xor:
		return c.X
	}
	return nil
}

func isRequest(m api.Model) bool {
	switch m.Ask {
	case api.Satisfy:
		return m.Goal == 0
	case api.Minimize, api.Maximize:
		return isVariable(m.Goal, m.Doms)
	}
	return false
}
