package model_test

import (
	"fmt"
	"slices"
	"strings"
	"testing"

	"touchstone/api"
	"touchstone/model"
	"touchstone/parse"
)

// known gives a name to each kind of thing, of ints and of bools; behind it stand 11 items.
const known = `int: n = 3; bool: q = true; var 1..9: x; var bool: y; array [1..2] of int: N = [4, n]; array [1..2] of bool: Q = [false, q];
	array [1..2] of var int: X = [x, 5]; array [1..2] of var bool: Y = [y, q]; array [1..0] of bool: E = []; array [1..0] of var int: F = []; int: m = -1; `

// behindKnown is the index of the first item behind these.
const behindKnown = 11

// allExprs are expressions of every kind, right and wrong.
func allExprs() []parse.Expr {
	l := []parse.Expr{
		num(0), num(1), num(2), num(most), num(most + 1), num(-most), num(-most - 1), num(greatest),
		num(least), truth(0), truth(1), list(),
	}
	plain := []parse.Expr{num(7), num(most + 1), truth(1), list()}
	for _, name := range strings.Fields("n q x y N Q X Y E F m u") {
		l = append(l, ref(name))
		plain = append(plain, ref(name))
	}
	for _, a := range plain {
		l = append(l, list(a), list(num(1), a), list(a, truth(0)), list(a, ref("x"), ref("u")))
	}
	return append(l, list(ref("n"), num(-2), ref("m")), list(ref("q"), truth(0), ref("y")), list(ref("x"), ref("x"), num(9)))
}

// rightExpr is a right one for each kind of argument of the table; all lists are of two elements.
func rightExpr(arg byte) parse.Expr {
	return map[byte]parse.Expr{'i': num(2), 'x': ref("x"), 'b': ref("y"), 'I': ref("N"), 'X': list(ref("x"), num(6)), 'B': ref("Y")}[arg]
}

// rightArgs are right arguments of a row of the table.
func rightArgs(r row) []parse.Expr {
	var l []parse.Expr
	for _, arg := range []byte(r.args) {
		l = append(l, rightExpr(arg))
	}
	return l
}

// withConstraint are the known items, a constraint and a Solve.
func withConstraint(t *testing.T, name string, args []parse.Expr) []parse.Item {
	t.Helper()
	return append(parsed(t, known), parse.Item{Kind: parse.Constraint, Name: name, Vals: args}, parse.Item{Kind: parse.Solve})
}

// P8.1: each name of the table, with each expression at each place.
func TestEachArgument(t *testing.T) {
	for _, r := range rows() {
		if err := holdJudge(t, withConstraint(t, r.name, rightArgs(r))); err != api.OK {
			t.Errorf("%s: %d", r.name, err)
		}
		for i := range r.args {
			for _, e := range allExprs() {
				args := rightArgs(r)
				args[i] = e
				holdJudge(t, withConstraint(t, r.name, args))
			}
		}
	}
}

// P8.1: which of two wrong arguments is told.
func TestTwoArguments(t *testing.T) {
	wrong := []parse.Expr{
		num(most + 1), num(8), truth(1), ref("u"), ref("n"), ref("q"), ref("x"), ref("y"), ref("N"), ref("Y"),
		ref("X"), ref("E"), list(), list(ref("u")), list(num(1), truth(0)), list(num(most+1), ref("u")),
		list(ref("u"), num(most+1)), list(ref("y"), truth(1)),
	}
	for _, r := range rows() {
		for i := range r.args {
			for k := range i {
				for _, a := range wrong {
					for _, b := range wrong {
						args := rightArgs(r)
						args[i], args[k] = a, b
						holdJudge(t, withConstraint(t, r.name, args))
					}
				}
			}
		}
	}
}

// P8.1: one argument too few or too many, and none, of each name; that is told before what is wrong
// with the others.
func TestNumberOfArguments(t *testing.T) {
	expect := func(name string, args []parse.Expr) {
		t.Helper()
		expectItemsError(t, withConstraint(t, name, args), behindKnown, api.ErrType)
	}
	for _, r := range rows() {
		right := rightArgs(r)
		expect(r.name, nil)
		for i := range right {
			expect(r.name, slices.Delete(slices.Clone(right), i, i+1))
			expect(r.name, right[:i])
			for _, more := range append(allExprs(), right[i]) {
				if more.Kind != parse.List || !slices.ContainsFunc(more.L, func(e parse.Expr) bool { return e.Kind == parse.List }) {
					expect(r.name, slices.Insert(slices.Clone(right), i, more))
					expect(r.name, append(slices.Clone(right), more))
				}
			}
		}
		for _, wrong := range []parse.Expr{ref("u"), num(most + 1), truth(1)} {
			expect(r.name, some(wrong, len(right)+1))
			expect(r.name, some(wrong, len(right)-1))
		}
		expect(r.name, some(right[0], 64))
	}
}

// P8.1: a list where none is required, and none where one is, is told before what the others are.
func TestShapesBeforeNames(t *testing.T) {
	for _, r := range rows() {
		for i, arg := range []byte(r.args) {
			wrong := []parse.Expr{list(), list(num(1)), list(ref("x"))}
			if arg < 'a' {
				wrong = []parse.Expr{num(1), num(most + 1), truth(1), truth(0)}
			}
			for _, e := range wrong {
				args := slices.Repeat([]parse.Expr{ref("u")}, len(r.args))
				args[i] = e
				expectItemsError(t, withConstraint(t, r.name, args), behindKnown, api.ErrType)
				args = rightArgs(r)
				args[i] = e
				expectItemsError(t, withConstraint(t, r.name, args), behindKnown, api.ErrType)
			}
			args := rightArgs(r)
			args[i] = ref("u")
			expectItemsError(t, withConstraint(t, r.name, args), behindKnown, api.ErrName)
		}
	}
}

// P8.1: names that are like those of the table, but not in it.
func TestUnknownConstraints(t *testing.T) {
	for _, r := range rows() {
		for _, name := range []string{
			r.name + "_", "_" + r.name, strings.ToUpper(r.name), r.name[1:], r.name[:len(r.name)-1],
			r.name + "_reif", r.name + "_imp", strings.ReplaceAll(r.name, "int", "bool") + "s",
			strings.TrimPrefix(r.name, "fzn_") + "0",
		} {
			if slices.ContainsFunc(rows(), func(other row) bool { return other.name == name }) {
				continue
			}
			for _, args := range [][]parse.Expr{rightArgs(r), nil, {ref("u")}, {num(most + 1)}} {
				expectItemsError(t, withConstraint(t, name, args), behindKnown, api.ErrKnow)
			}
		}
	}
	for _, name := range []string{
		"foo", "x", "n", "N", "Same", "LinEq", "int_ne", "int_le", "int_lt", "int_lin_ne_reif",
		"int_lin_eq_imp", "int_lin_ne_imp", "bool_ne", "bool_not", "bool_and", "bool_or", "array_bool_xor",
		"array_bool_element", "array_var_bool_element", "all_different_int", "fzn_all_different",
		"fzn_all_different_bool", "cumulative", "int_plus", "int_div", "_",
	} {
		expectError(t, known+"constraint "+name+"(); solve satisfy;", behindKnown, api.ErrKnow)
		expectError(t, known+"constraint "+name+"(x, X, n, N); solve satisfy;", behindKnown, api.ErrKnow)
	}
}

// P8.1: constraints with wrong numbers of X and A.
func TestCounts(t *testing.T) {
	for text, want := range map[string]api.Errno{
		"int_lin_eq([], [x], 1)":                     api.ErrArg,
		"int_lin_eq([1], [], 1)":                     api.ErrArg,
		"int_lin_le([1, 2], [x], 1)":                 api.ErrArg,
		"int_lin_le([1], [x, x], 1)":                 api.ErrArg,
		"int_lin_ne(N, [x, x, 1], 1)":                api.ErrArg,
		"int_lin_ne([1, 2, 3], X, 1)":                api.ErrArg,
		"int_lin_eq_reif(N, [x], 1, y)":              api.ErrArg,
		"int_lin_eq_reif([1], X, 1, y)":              api.ErrArg,
		"int_lin_le_reif([1, 2, 3], X, 1, y)":        api.ErrArg,
		"int_lin_le_reif([], [x], 1, true)":          api.ErrArg,
		"int_lin_le_imp([1], [], 1, y)":              api.ErrArg,
		"int_lin_le_imp([1], [x, x], 1, y)":          api.ErrArg,
		"array_int_element(x, [], x)":                api.ErrArg,
		"array_var_int_element(x, [], x)":            api.ErrArg,
		"array_var_int_element(x, F, x)":             api.ErrArg,
		"fzn_cumulative(X, [1], [1], 1)":             api.ErrArg,
		"fzn_cumulative(X, [1, 2], [1], 1)":          api.ErrArg,
		"fzn_cumulative(X, [1], [1, 2], 1)":          api.ErrArg,
		"fzn_cumulative(X, [1, 2, 3], [1, 2], 1)":    api.ErrArg,
		"fzn_cumulative(X, [1, 2, 3], [1, 2, 3], 1)": api.ErrArg,
		"fzn_cumulative([], [1], [1], 1)":            api.ErrArg,
		"fzn_cumulative([x], [], [], 1)":             api.ErrArg,
		"fzn_cumulative([x], [1], [], 1)":            api.ErrArg,
		"fzn_cumulative([x], N, N, 1)":               api.ErrArg,
		// Only the numbers of both lists together are asked: A has twice the length of X.
		"fzn_cumulative(X, [1], [2, 3, 4], 1)":   api.OK,
		"fzn_cumulative(X, [], [1, 2, 3, 4], 1)": api.OK,
		"fzn_cumulative([x], N, [], 1)":          api.OK,
		"array_int_element(x, [1], x)":           api.OK,
		"array_var_int_element(x, [1], x)":       api.OK,
	} {
		if want == api.OK {
			if err := holdJudge(t, parsed(t, known+"constraint "+text+"; solve satisfy;")); err != want {
				t.Errorf("%s: %d", text, err)
			}
			continue
		}
		expectError(t, known+"constraint "+text+"; solve satisfy;", behindKnown, want)
	}
}

// P8.1: numbers of a Cumulative, which must not be negative, at each place.
func TestNegativeNumbers(t *testing.T) {
	const right = "fzn_cumulative([m, m], [0, 1], [2, 0], 0)"
	expectBuilt(t, "int: m = -1; constraint "+right+"; solve satisfy;", "-1..-1 / Cumulative[0 0][0 1 2 0]0 / 0 0 / ")
	for _, changed := range []string{
		"[m, m], [-1, 1], [2, 0], 0", "[m, m], [0, -1], [2, 0], 0", "[m, m], [0, m], [2, 0], 0",
		"[m, m], [0, 1], [-2, 0], 0", "[m, m], [0, 1], [2, -1048576], 0", "[m, m], [0, 1], [m, m], 0",
		"[m, m], [0, 1], [2, 0], -1", "[m, m], [0, 1], [2, 0], m", "[], [], [], -1", "[x, x], [0, 1], A, 1",
		"[x, x], A, [0, 1], 1",
	} {
		expectError(t, "int: m = -1; array [1..2] of int: A = [3, -4]; var 1..2: x; constraint fzn_cumulative("+changed+"); solve satisfy;", 3, api.ErrArg)
	}
	// The numbers of no other constraint are held against 0.
	expectBuilt(t, "var 0..9: x; constraint int_lin_le([-1], [x], -1); constraint array_int_element(x, [-1], x); solve satisfy;",
		"0..9 / LinLe[0][-1]-1 Element[0 0][-1]0 / 0 0 / ")
}

// P8.1: items that are not valid, before anything else that is wrong with them.
func TestItemsNotValid(t *testing.T) {
	for _, x := range []parse.Item{
		{},
		{Kind: 7},
		{Kind: -1, Name: "z"},
		{Kind: parse.Par, Name: "z"},
		{Kind: parse.Par, Name: "var", Vals: []parse.Expr{num(1)}},
		{Kind: parse.Par, Name: "z", Vals: []parse.Expr{truth(1)}},
		{Kind: parse.Par, Name: "z", Bool: true, Vals: []parse.Expr{num(1)}},
		{Kind: parse.Par, Name: "z", Bool: true, Vals: []parse.Expr{truth(2)}},
		{Kind: parse.Par, Name: "z", Vals: []parse.Expr{ref("n")}},
		{Kind: parse.Par, Name: "z", Vals: some(num(1), 2)},
		{Kind: parse.Par, Name: "z", Vals: some(num(1), 1), Out: true},
		{Kind: parse.Var, Name: "z"},
		{Kind: parse.Var, Name: "", Dom: ranges(1, 2)},
		{Kind: parse.Var, Name: "z", Dom: ranges(1, 2, 4, 5)},
		{Kind: parse.Var, Name: "z", Dom: ranges(1, 1, 4, 3)},
		{Kind: parse.Var, Name: "z", Dom: ranges(1, 1), Bool: true},
		{Kind: parse.Var, Name: "z", Dom: ranges(1, 1), Size: 1},
		{Kind: parse.Var, Name: "z", Dom: ranges(1, 1), Vals: some(num(1), 2)},
		{Kind: parse.Var, Name: "z", Dom: ranges(1, 1), Vals: some(list(), 1)},
		{Kind: parse.Var, Name: "z", Dom: ranges(1, 1), Vals: []parse.Expr{{Kind: parse.Ref, S: "n", N: 1}}},
		{Kind: parse.Var, Name: "z", Dom: slices.Repeat(ranges(1, 1), 257)},
		{Kind: parse.ParArray, Name: "z", Size: 1, Vals: some(list(), 1)},
		{Kind: parse.ParArray, Name: "z", Size: 65, Vals: some(num(1), 65)},
		{Kind: parse.ParArray, Name: "z", Out: true},
		{Kind: parse.VarArray, Name: "z", Size: 65, Vals: some(num(1), 65)},
		{Kind: parse.VarArray, Name: "z", Ask: 1},
		{Kind: parse.VarArray, Name: "z", Size: 1, Vals: []parse.Expr{{Kind: 5}}},
		{Kind: parse.Constraint},
		{Kind: parse.Constraint, Name: "true"},
		{Kind: parse.Constraint, Name: "int_abs", Bool: true, Vals: some(num(1), 2)},
		{Kind: parse.Constraint, Name: "int_abs", Vals: []parse.Expr{num(1), {Kind: parse.Num, N: 1, S: "x"}}},
		{Kind: parse.Constraint, Name: "int_abs", Vals: []parse.Expr{num(1), {Kind: parse.Bool, N: 2}}},
		{Kind: parse.Constraint, Name: "int_abs", Vals: []parse.Expr{num(1), {}}},
		{Kind: parse.Constraint, Name: "fzn_all_different_int", Vals: []parse.Expr{list(some(ref("x"), 65)...)}},
		{Kind: parse.Constraint, Name: "fzn_all_different_int", Vals: []parse.Expr{list(list(ref("x")))}},
		{Kind: parse.Constraint, Name: "array_int_element", Vals: []parse.Expr{ref("x"), list(some(num(1), 65)...), ref("x")}},
		{Kind: parse.Constraint, Name: "foo", Vals: some(num(1), 65)},
		{Kind: parse.Solve, Name: "x"},
		{Kind: parse.Solve, Ask: 1},
		{Kind: parse.Solve, Ask: 3, Name: "x"},
		{Kind: parse.Solve, Ask: -1},
		{Kind: parse.Solve, Ask: 1, Name: "x", Size: 1},
	} {
		before := parsed(t, known)
		expectItemsError(t, append(before, x, parse.Item{Kind: parse.Solve}), behindKnown, api.ErrArg)
		expectItemsError(t, []parse.Item{x}, 0, api.ErrArg)
		// Before ErrForm, and before ErrTwice if it has a name.
		expectItemsError(t, append(before, parse.Item{Kind: parse.Solve}, x), behindKnown+1, api.ErrArg)
		if x.Name == "z" {
			x.Name = "n"
			expectItemsError(t, append(before, x), behindKnown, api.ErrArg)
		}
	}
}

// R1: items and lists that hold themselves come to an end.
func TestItemThatHoldsItself(t *testing.T) {
	loop := []parse.Expr{num(1), list()}
	loop[1].L = loop
	for _, x := range []parse.Item{{Kind: parse.Constraint, Name: "int_eq", Vals: loop}, {Kind: parse.ParArray, Name: "a", Size: 2, Vals: loop}} {
		// The judge's words about items that are too deep to be told would never end.
		if p, at, err := model.Build([]parse.Item{x, {Kind: parse.Solve}}); told(p) != told(model.Problem{}) || at != 0 || err != api.ErrArg {
			t.Errorf("%s, %d, %d", told(p), at, err)
		}
	}
}

// declarations are an item of each kind that has a name.
func declarations(name string) []string {
	return []string{
		"int: " + name + " = 1;", "bool: " + name + " = true;", "var 1..3: " + name + ";",
		"var bool: " + name + " :: output_var = true;", "array [1..1] of int: " + name + " = [1];",
		"array [1..0] of bool: " + name + " = [];", "array [1..1] of var int: " + name + " = [1];",
		"array [1..1] of var bool: " + name + " :: output_array([1..1]) = [true];",
	}
}

// P8.1: one name twice, of any two items that have a name.
func TestTwice(t *testing.T) {
	for _, a := range declarations("a") {
		for _, b := range declarations("a") {
			expectError(t, a+b+"solve satisfy;", 1, api.ErrTwice)
			expectError(t, "int: b = 2;"+a+"constraint int_abs(1, 1);"+b+"solve satisfy;", 3, api.ErrTwice)
			// Before ErrForm, and before what is wrong with the item itself.
			expectError(t, a+"solve satisfy;"+b, 2, api.ErrTwice)
		}
		for _, b := range []string{
			"int: a = 1048577;", "var 3..1: a;", "var 1..2: a = u;", "array [1..2] of int: a = [];",
			"array [1..1] of var int: a = [u];",
		} {
			expectError(t, a+b+"solve satisfy;", 1, api.ErrTwice)
		}
		for _, b := range declarations("A") {
			if err := holdJudge(t, parsed(t, a+b+"solve satisfy;")); err != api.OK {
				t.Errorf("%s%s: %d", a, b, err)
			}
		}
	}
}

// P8.1: what follows a Solve, whatever it is, and whatever else is wrong with it.
func TestAfterSolve(t *testing.T) {
	for _, first := range []string{"solve satisfy;", "solve minimize x;", "solve maximize x;"} {
		all := append(declarations("z"),
			"solve satisfy;", "solve minimize x;", "solve maximize u;", "constraint int_abs(1, 1);",
			"constraint foo();", "constraint int_abs(u);", "int: z = 1048577;", "var 3..1: z;",
			"array [1..2] of int: z = [];", "array [1..1] of var int: z = [u];",
		)
		for _, second := range all {
			expectError(t, known+first+second, behindKnown+1, api.ErrForm)
			expectError(t, known+first+second+"solve satisfy; int: n = 1;", behindKnown+1, api.ErrForm)
		}
	}
	expectError(t, "solve satisfy; solve satisfy;", 1, api.ErrForm)
}

// P8.1: no Solve, with the number of items.
func TestNoSolve(t *testing.T) {
	expectItemsError(t, nil, 0, api.ErrNone)
	expectItemsError(t, []parse.Item{}, 0, api.ErrNone)
	expectError(t, known, behindKnown, api.ErrNone)
	expectError(t, "var 1..3: x :: output_var;", 1, api.ErrNone)
	expectError(t, strings.Repeat("constraint int_abs(1, 1);", 64), 64, api.ErrNone)
	var l []parse.Item
	for i := range 2000 {
		l = append(l, parse.Item{Kind: parse.Par, Name: fmt.Sprint("n", i), Vals: []parse.Expr{num(1)}})
	}
	expectItemsError(t, l, 2000, api.ErrNone)
	holdJudge(t, append(l, parse.Item{Kind: parse.Solve}))
}

// P8.1: a Solve whose name is none, or not that of an int Var.
func TestWrongRequests(t *testing.T) {
	for _, ask := range []string{"solve minimize ", "solve maximize "} {
		for name, want := range map[string]api.Errno{
			"u":       api.ErrName,
			"int_abs": api.ErrName,
			"n":       api.ErrType,
			"q":       api.ErrType,
			"y":       api.ErrType,
			"N":       api.ErrType,
			"Q":       api.ErrType,
			"X":       api.ErrType,
			"Y":       api.ErrType,
			"F":       api.ErrType,
			"m":       api.ErrType,
		} {
			expectError(t, known+"constraint int_abs(1, 1);"+ask+name+";", behindKnown+1, want)
			expectError(t, known+ask+name+"; solve satisfy;", behindKnown, want)
		}
		expectError(t, ask+"x;", 0, api.ErrName)
		expectError(t, ask+"x; var 1..3: x;", 0, api.ErrName)
		if err := holdJudge(t, parsed(t, known+ask+"x;")); err != api.OK {
			t.Errorf("%sx: %d", ask, err)
		}
	}
}

// P8.1: Pars whose value is too great.
func TestParValues(t *testing.T) {
	for _, n := range []int64{most, most + 1, 2 * most, 1 << 32, greatest} {
		for _, n := range []int64{n, -n} {
			text := fmt.Sprint("int: k = ", n, ";")
			if inside(n) {
				expectBuilt(t, text+"constraint int_abs(k, k); solve satisfy;", fmt.Sprintf("%d..%d / Abs[0 0][]0 / 0 0 / ", n, n))
				continue
			}
			expectError(t, known+text+"solve satisfy;", behindKnown, api.ErrArg)
		}
	}
	expectError(t, "int: k = -9223372036854775808; solve satisfy;", 0, api.ErrArg)
}

// P8.1: domains with ends that are too great, or in the wrong order.
func TestWrongDomains(t *testing.T) {
	for _, dom := range []string{
		"3..1", "1..0", "0..-1", "1048576..-1048576", "0..1048577", "1048577..1048577", "1048577..1048576",
		"-1048577..0", "-1048577..-1048577", "-1048577..1048577", "9223372036854775807..-9223372036854775808",
		"-9223372036854775808..9223372036854775807", "{1048577}", "{-1048577}", "{1, 1048577}", "{1048577, 1}",
		"{1, 2, -1048577, 3}", "{-9223372036854775808, 9223372036854775807}",
	} {
		expectError(t, known+"var "+dom+": z; solve satisfy;", behindKnown, api.ErrArg)
		// Before the errors of the value.
		expectError(t, known+"var "+dom+": z = u; solve satisfy;", behindKnown, api.ErrArg)
		expectError(t, known+"var "+dom+": z = true; solve satisfy;", behindKnown, api.ErrArg)
	}
}

// P8.1: wrong values of Vars.
func TestWrongValues(t *testing.T) {
	values := map[string][2]api.Errno{ // of an int Var, and of a bool Var
		"1":        {api.OK, api.ErrType},
		"1048576":  {api.OK, api.ErrType},
		"-1048576": {api.OK, api.ErrType},
		"1048577":  {api.ErrArg, api.ErrType},
		"-1048577": {api.ErrArg, api.ErrType},
		"true":     {api.ErrType, api.OK},
		"false":    {api.ErrType, api.OK},
		"u":        {api.ErrName, api.ErrName},
		"z":        {api.ErrName, api.ErrName}, // no earlier item has the Var's own name
		"int_abs":  {api.ErrName, api.ErrName},
		"n":        {api.OK, api.ErrType},
		"q":        {api.ErrType, api.OK},
		"x":        {api.OK, api.ErrType},
		"y":        {api.ErrType, api.OK},
		"N":        {api.ErrType, api.ErrType},
		"Q":        {api.ErrType, api.ErrType},
		"X":        {api.ErrType, api.ErrType},
		"Y":        {api.ErrType, api.ErrType},
		"F":        {api.ErrType, api.ErrType},
	}
	for value, want := range values {
		for i, dom := range []string{"1..3", "bool"} {
			for _, out := range []string{"", ":: output_var "} {
				text := known + "var " + dom + ": z " + out + "= " + value + "; solve satisfy;"
				if want[i] == api.OK {
					if err := holdJudge(t, parsed(t, text)); err != api.OK {
						t.Errorf("%s: %d", text, err)
					}
					continue
				}
				expectError(t, text, behindKnown, want[i])
			}
		}
	}
}

// P8.1: arrays whose Size is not the number of elements.
func TestSizes(t *testing.T) {
	for _, size := range []int64{-3, -2, -1, 0, 1, 2, 3, 4, 1 << 32, 1<<32 + 2, greatest, least} {
		for n := range 4 {
			for _, x := range []parse.Item{
				{Kind: parse.ParArray, Vals: some(num(1), n)},
				{Kind: parse.ParArray, Bool: true, Vals: some(truth(1), n)},
				{Kind: parse.VarArray, Vals: some(ref("x"), n)},
				{Kind: parse.VarArray, Out: true, Bool: true, Vals: some(ref("y"), n)},
			} {
				x.Name, x.Size = "z", size
				l := append(parsed(t, known), x, parse.Item{Kind: parse.Solve})
				if size != int64(n) {
					expectItemsError(t, l, behindKnown, api.ErrArg)
				} else if err := holdJudge(t, l); err != api.OK {
					t.Errorf("%d elements of %d: %d", n, size, err)
				}
				// Before the errors of the elements.
				x.Vals = some(ref("u"), n)
				l[behindKnown] = x
				if size != int64(n) {
					expectItemsError(t, l, behindKnown, api.ErrArg)
				} else if n > 0 {
					expectItemsError(t, l, behindKnown, api.ErrName)
				}
			}
		}
	}
}

// P8.1: each element of an array of each kind, alone and behind others.
func TestElements(t *testing.T) {
	kinds := []string{"int", "bool", "var int", "var bool"}
	values := map[string][4]api.Errno{
		"1":        {api.OK, api.ErrType, api.OK, api.ErrType},
		"1048576":  {api.OK, api.ErrType, api.OK, api.ErrType},
		"-1048576": {api.OK, api.ErrType, api.OK, api.ErrType},
		"1048577":  {api.ErrArg, api.ErrArg, api.ErrArg, api.ErrArg},
		"-1048577": {api.ErrArg, api.ErrArg, api.ErrArg, api.ErrArg},
		"true":     {api.ErrType, api.OK, api.ErrType, api.OK},
		"u":        {api.ErrName, api.ErrName, api.ErrName, api.ErrName},
		"z":        {api.ErrName, api.ErrName, api.ErrName, api.ErrName},
		"n":        {api.OK, api.ErrType, api.OK, api.ErrType},
		"q":        {api.ErrType, api.OK, api.ErrType, api.OK},
		"x":        {api.ErrType, api.ErrType, api.OK, api.ErrType},
		"y":        {api.ErrType, api.ErrType, api.ErrType, api.OK},
		"N":        {api.ErrType, api.ErrType, api.ErrType, api.ErrType},
		"Q":        {api.ErrType, api.ErrType, api.ErrType, api.ErrType},
		"X":        {api.ErrType, api.ErrType, api.ErrType, api.ErrType},
		"Y":        {api.ErrType, api.ErrType, api.ErrType, api.ErrType},
	}
	right := []string{"2", "false", "x", "y"}
	for value, want := range values {
		for i, kind := range kinds {
			for _, l := range []string{value, value + ", " + right[i], right[i] + ", " + value} {
				text := fmt.Sprintf("%sarray [1..%d] of %s: z = [%s]; solve satisfy;", known, strings.Count(l, ",")+1, kind, l)
				if want[i] == api.OK {
					if err := holdJudge(t, parsed(t, text)); err != api.OK {
						t.Errorf("%s: %d", text, err)
					}
					continue
				}
				expectError(t, text, behindKnown, want[i])
			}
		}
	}
}

// P8.1: which of two wrong elements is told: the first one, but in an array a number that is too
// great before all others.
func TestTwoElements(t *testing.T) {
	for _, kind := range []string{"int", "bool", "var int", "var bool"} {
		for l, want := range map[string]api.Errno{
			"u, N":        api.ErrName,
			"N, u":        api.ErrType,
			"u, 1048577":  api.ErrArg,
			"1048577, u":  api.ErrArg,
			"N, -1048577": api.ErrArg,
			"-1048577, N": api.ErrArg,
		} {
			expectError(t, known+"array [1..2] of "+kind+": z = ["+l+"]; solve satisfy;", behindKnown, want)
			expectError(t, known+"array [1..3] of "+kind+": z = ["+l+"]; solve satisfy;", behindKnown, api.ErrArg)
		}
	}
	for l, want := range map[string]api.Errno{
		"u, N":        api.ErrName,
		"N, u":        api.ErrType,
		"u, 1048577":  api.ErrName,
		"1048577, u":  api.ErrArg,
		"N, -1048577": api.ErrType,
		"-1048577, N": api.ErrArg,
		"true, u":     api.ErrType,
		"1, u":        api.ErrName,
	} {
		expectError(t, known+"constraint int_lin_eq(["+l+"], [u], u); solve satisfy;", behindKnown, want)
		expectError(t, known+"constraint int_lin_eq([1], ["+l+"], u); solve satisfy;", behindKnown, want)
		expectError(t, known+"constraint fzn_all_different_int(["+l+"]); solve satisfy;", behindKnown, want)
		if want != api.ErrArg && l != "1, u" && l != "true, u" {
			expectError(t, known+"constraint bool_clause([], ["+l+"]); solve satisfy;", behindKnown, want)
		}
	}
	// A number is no bool, however great it is.
	expectError(t, known+"constraint bool_clause([1048577], []); solve satisfy;", behindKnown, api.ErrType)
	expectError(t, known+"constraint bool_clause([1, u], []); solve satisfy;", behindKnown, api.ErrType)
	expectError(t, known+"constraint bool_clause([true, u], []); solve satisfy;", behindKnown, api.ErrName)
}

// P8.1: of two wrong items the first one is told.
func TestFirstItem(t *testing.T) {
	wrong := map[string]api.Errno{
		"constraint foo();":         api.ErrKnow,
		"constraint int_abs(1);":    api.ErrType,
		"constraint int_abs(u, 1);": api.ErrName,
		"int: n = 1;":               api.ErrTwice,
		"var 3..1: z;":              api.ErrArg,
		"solve minimize u;":         api.ErrName,
	}
	for a, want := range wrong {
		for b := range wrong {
			expectError(t, known+a+b, behindKnown, want)
			expectError(t, known+"constraint int_abs(7, 8);"+a+"constraint int_abs(7, 8);"+b+"solve satisfy;", behindKnown+1, want)
		}
		expectError(t, known+a, behindKnown, want)
	}
}
