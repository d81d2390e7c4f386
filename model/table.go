package model

import (
	"touchstone/api"
	"touchstone/parse"
)

// shape is what an argument of a constraint must be.
type shape int

// The shapes. Those from intConstants on are lists.
const (
	intConstant shape = iota
	intVariable
	boolVariable
	intConstants
	intVariables
	boolVariables
	clauseTrue  // the variables of which a clause asks that one is 1
	clauseFalse // or that one of these is 0
)

// fits tells whether an expression may stand for an argument of a shape. What its name stands for,
// or what its elements are, is not asked.
func (s shape) fits(x parse.Expr) bool {
	if s >= intConstants {
		return x.Kind == parse.List || x.Kind == parse.Ref
	}
	return x.Kind != parse.List
}

func fitAll(shapes []shape, args []parse.Expr) bool {
	if len(args) != len(shapes) {
		return false
	}
	for i, s := range shapes {
		if !s.fits(args[i]) {
			return false
		}
	}
	return true
}

// formOf returns the kind of the constraints of a name, and the shapes of their arguments; or 0 if
// there is no such name.
func formOf(name string) (int, []shape) {
	switch name {
	case "int_eq":
		return api.Same, []shape{intVariable, intVariable}
	case "bool_eq":
		return api.Same, []shape{boolVariable, boolVariable}
	case "bool2int":
		return api.Same, []shape{boolVariable, intVariable}
	case "int_lin_eq":
		return api.LinEq, []shape{intConstants, intVariables, intConstant}
	case "int_lin_le":
		return api.LinLe, []shape{intConstants, intVariables, intConstant}
	case "int_lin_ne":
		return api.LinNe, []shape{intConstants, intVariables, intConstant}
	case "int_lin_eq_reif":
		return api.LinEqReif, []shape{intConstants, intVariables, intConstant, boolVariable}
	case "int_lin_le_reif":
		return api.LinLeReif, []shape{intConstants, intVariables, intConstant, boolVariable}
	case "int_lin_le_imp":
		return api.LinLeImp, []shape{intConstants, intVariables, intConstant, boolVariable}
	case "int_times":
		return api.Times, []shape{intVariable, intVariable, intVariable}
	case "int_min":
		return api.Min, []shape{intVariable, intVariable, intVariable}
	case "int_max":
		return api.Max, []shape{intVariable, intVariable, intVariable}
	case "int_abs":
		return api.Abs, []shape{intVariable, intVariable}
	case "bool_clause":
		return api.Clause, []shape{clauseTrue, clauseFalse}
	case "array_bool_and":
		return api.And, []shape{boolVariables, boolVariable}
	case "array_bool_or":
		return api.Or, []shape{boolVariables, boolVariable}
	case "bool_xor":
		return api.Xor, []shape{boolVariable, boolVariable, boolVariable}
	case "array_int_element":
		return api.Element, []shape{intVariable, intConstants, intVariable}
	case "array_var_int_element":
		return api.VarElement, []shape{intVariable, intVariables, intVariable}
	case "fzn_all_different_int":
		return api.AllDiff, []shape{intVariables}
	case "fzn_cumulative":
		return api.Cumulative, []shape{intVariables, intConstants, intConstants, intConstant}
	}
	return 0, nil
}
