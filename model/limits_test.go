package model_test

import (
	"fmt"
	"slices"
	"strings"
	"testing"

	"touchstone/api"
	"touchstone/model"
	"touchstone/parse"
)

// vars are so many Vars, x0 and so on.
func vars(n int) []parse.Item {
	var l []parse.Item
	for i := range n {
		l = append(l, parse.Item{Kind: parse.Var, Name: fmt.Sprint("x", i), Dom: ranges(1, 3)})
	}
	return l
}

// joined are items and a Solve behind them.
func joined(parts ...[]parse.Item) []parse.Item {
	return append(slices.Concat(parts...), parse.Item{Kind: parse.Solve})
}

// expectLimit asks that items are right, and for the numbers of variables, constraints and outputs.
func expectLimit(t *testing.T, l []parse.Item, doms, cons, outs int) {
	t.Helper()
	holdJudge(t, l)
	p, _, err := model.Build(l)
	if len(p.M.Doms) != doms || len(p.M.Cons) != cons || len(p.Outs) != outs || err != api.OK {
		t.Errorf("%s: %d, %d", told(p), err, len(p.Outs))
	}
}

// expectBig asks for ErrBig at one item behind others.
func expectBig(t *testing.T, before []parse.Item, text string) {
	t.Helper()
	expectItemsError(t, joined(before, parsed(t, text)), len(before), api.ErrBig)
	expectItemsError(t, joined(before, parsed(t, text), parsed(t, "constraint foo();")), len(before), api.ErrBig)
}

// expectFull asks that the text of one item is right behind items, and then asks for ErrBig behind
// one item more.
func expectFull(t *testing.T, before, more []parse.Item, text string) {
	t.Helper()
	if err := holdJudge(t, joined(before, parsed(t, text))); err != api.OK {
		t.Errorf("%s behind %d items: %d", text, len(before), err)
	}
	expectBig(t, slices.Concat(more, before), text)
}

// P8.1: 64 and 65 variables: by Vars, by their values, by arrays, and by each argument of a
// constraint that needs a fixed variable.
func TestManyVariables(t *testing.T) {
	expectLimit(t, joined(vars(64)), 64, 0, 0)
	expectItemsError(t, joined(vars(65)), 64, api.ErrBig)
	expectItemsError(t, joined(vars(70)), 64, api.ErrBig)
	another := parsed(t, "var 1..9: y;")
	for _, text := range []string{
		"var 5..6: z;", "var bool: z;", "var {7}: z :: output_var;", "var 5..6: z = x3;",
		"constraint int_abs(9, x1);", "constraint int_abs(x1, 9);", "constraint int_abs(9, 9);",
		"constraint bool_eq(true, true);", "constraint bool2int(true, x1);", "constraint bool2int(false, 0);",
		"array [1..2] of var int: z = [x1, 9];",
		"array [1..3] of var bool: z :: output_array([1..3]) = [true, true, true];",
		"constraint int_lin_le([1, 2], [x1, 9], 8);", "constraint int_lin_le_imp([1], [x1], 8, true);",
		"constraint fzn_all_different_int([x1, 9, 9, x2]);", "constraint array_bool_and([], true);",
		"constraint bool_clause([true], [true]);", "constraint bool_clause([], [false]);",
		"constraint bool_clause([false], []);", "constraint array_var_int_element(x1, [9], x2);",
		"constraint fzn_cumulative([9], [1], [1], 1);", "constraint array_int_element(9, [7, 6], x2);",
	} {
		expectFull(t, vars(63), another, text)
	}
	for _, text := range []string{
		"var 5..6: z = 9;", "var bool: z = true;", "constraint int_abs(8, 9);",
		"constraint bool_eq(true, false);", "array [1..2] of var int: z = [9, 8];",
		"constraint int_times(x1, 8, 9);", "constraint bool_clause([true], [false]);",
		"constraint fzn_all_different_int([8, x1, 9]);", "constraint array_var_int_element(8, [9], 8);",
	} {
		expectFull(t, vars(62), another, text)
	}
}

// P8.1: the elements of an array of constants need fixed variables where variables are required,
// and only there.
func TestManyVariablesByArrays(t *testing.T) {
	arrays := parsed(t, "array [1..2] of int: a = [8, 9]; array [1..2] of bool: c = [true, false]; int: n = 8; bool: q = true;")
	another := parsed(t, "var 1..9: y;")
	for _, text := range []string{
		"constraint fzn_all_different_int(a);", "constraint bool_clause(c, c);",
		"constraint array_bool_or(c, true);", "constraint int_lin_eq(a, a, 7);", "constraint int_abs(n, 9);",
		"constraint bool_eq(q, false);", "var 0..9: z = n; ", "array [1..2] of var int: z = [n, 9];",
		"array [1..2] of var bool: z = [q, false];",
	} {
		expectFull(t, append(slices.Clone(arrays), vars(62)...), another, text)
	}
	full := append(slices.Clone(arrays), vars(64)...)
	expectLimit(t, joined(full, parsed(t, `constraint int_lin_eq(a, [x1, x63], n); constraint array_int_element(x1, a, x2);
		constraint fzn_cumulative([x1, x2], a, a, n); array [1..1] of var int: z = [x4];
		int: k = 5; array [1..3] of int: m = [1, 2, n];`)), 64, 3, 0)
}

// P8.1: with 64 variables, those that are there can still be named, the fixed ones by their values.
func TestFullOfVariables(t *testing.T) {
	full := append(vars(61), parsed(t, "var bool: b = true; array [1..1] of var int: f = [9];")...)
	expectLimit(t, joined(full, parsed(t, `constraint int_abs(9, 1); constraint bool2int(true, 1); constraint bool_eq(b, true);
		array [1..3] of var int: c = [9, 1, x1];`)), 64, 4, 0)
	for _, text := range []string{
		"constraint int_abs(9, 2);", "constraint bool_eq(true, false);", "array [1..1] of var int: z = [0];",
		"var 1..1: z;", "var 1..3: z = u;", "var bool: z = 7;", "constraint int_abs(8, u);",
		"constraint int_lin_eq([1, 1], [8], 1);", "array [1..2] of var int: z = [8, u];",
		"constraint fzn_cumulative([8], [-1], [1], 1);",
	} {
		expectBig(t, full, text)
	}
	// What the chapter names before the limit, and what stands before it, is told first.
	for text, want := range map[string]api.Errno{
		"var 3..1: z;":                               api.ErrArg,
		"var 1..2: x1;":                              api.ErrTwice,
		"constraint int_abs(u, 8);":                  api.ErrName,
		"constraint int_abs(true, 8);":               api.ErrType,
		"constraint int_abs(1048577, 8);":            api.ErrArg,
		"constraint int_abs(8);":                     api.ErrType,
		"constraint int_abs(8, [1]);":                api.ErrType,
		"array [1..2] of var int: z = [u, 8];":       api.ErrName,
		"array [1..3] of var int: z = [8];":          api.ErrArg,
		"array [1..2] of var int: z = [8, 1048577];": api.ErrArg,
		"constraint foo(8);":                         api.ErrKnow,
	} {
		expectItemsError(t, joined(full, parsed(t, text)), len(full), want)
	}
}

// constraints are so many constraints, on a variable that they need.
func constraints(n int) []parse.Item {
	l := vars(1)
	for i := range n {
		args := []parse.Expr{ref("x0"), ref("x0")}
		l = append(l, parse.Item{Kind: parse.Constraint, Name: []string{"int_abs", "int_eq"}[i%2], Vals: args})
	}
	return l
}

// P8.1: 64 and 65 constraints, by constraints and by the values of Vars.
func TestManyConstraints(t *testing.T) {
	expectLimit(t, joined(constraints(64)), 1, 64, 0)
	expectItemsError(t, joined(constraints(65)), 65, api.ErrBig)
	for _, text := range []string{
		"constraint int_abs(x0, x0);", "constraint int_abs(x0, 8);", "constraint int_lin_le([], [], 1);",
		"constraint fzn_all_different_int([]);", "var 1..2: z = x0;", "var 1..2: z = 7;",
		"var bool: z = true;", "var bool: z :: output_var = true;",
	} {
		if err := holdJudge(t, joined(constraints(63), parsed(t, text))); err != api.OK {
			t.Errorf("%s: %d", text, err)
		}
		expectBig(t, constraints(64), text)
	}
	values := vars(32)
	for i := range 32 {
		values = append(values, parse.Item{Kind: parse.Var, Name: fmt.Sprint("y", i), Dom: ranges(0, 9), Vals: []parse.Expr{ref(fmt.Sprint("x", i))}})
	}
	expectLimit(t, joined(values, constraints(32)[1:]), 64, 64, 0)
	expectItemsError(t, joined(values, constraints(33)[1:]), 96, api.ErrBig)
	// What is wrong with a constraint is told before the limit.
	for text, want := range map[string]api.Errno{
		"constraint int_abs(u, 8);":                  api.ErrName,
		"constraint int_abs(x0, true);":              api.ErrType,
		"constraint foo();":                          api.ErrKnow,
		"constraint int_lin_le([1], [], 1);":         api.ErrArg,
		"constraint fzn_cumulative([], [], [], -1);": api.ErrArg,
		"var 1..2: z = u;":                           api.ErrName,
		"var 1..2: z = true;":                        api.ErrType,
		"var 1..2: z = 1048577;":                     api.ErrArg,
		"var 3..1: z = 1;":                           api.ErrArg,
		"solve minimize u;":                          api.ErrName,
	} {
		expectItemsError(t, joined(constraints(64), parsed(t, text)), 65, want)
	}
	expectLimit(t, joined(constraints(64), parsed(t, "var 1..2: z; array [1..1] of var int: a = [8]; int: n = 4;")), 3, 64, 0)
}

// repeated is a list of so many elements.
func repeated(element string, n int) string {
	return "[" + strings.TrimSuffix(strings.Repeat(element+", ", n), ", ") + "]"
}

// P8.1: 32 and 33 variables of one constraint, of each Kind that may have so many.
func TestLongConstraints(t *testing.T) {
	const begin = "var 1..9: x; var bool: b; "
	for n := 31; n <= 34; n++ {
		for _, c := range []struct {
			text string
			x    int
		}{
			{"int_lin_eq(" + repeated("1", n) + ", " + repeated("x", n) + ", 4)", n},
			{"int_lin_le(" + repeated("1", n) + ", " + repeated("2", n) + ", 4)", n},
			{"int_lin_ne(" + repeated("-1", n) + ", " + repeated("x", n) + ", 4)", n},
			{"int_lin_eq_reif(" + repeated("1", n) + ", " + repeated("x", n) + ", 4, b)", n + 1},
			{"int_lin_le_reif(" + repeated("1", n) + ", " + repeated("x", n) + ", 4, b)", n + 1},
			{"int_lin_le_imp(" + repeated("1", n) + ", " + repeated("x", n) + ", 4, true)", n + 1},
			{"bool_clause(" + repeated("b", n) + ", [])", n},
			{"bool_clause([], " + repeated("b", n) + ")", n},
			{"bool_clause(" + repeated("b", n-16) + ", " + repeated("true", 16) + ")", n},
			{"array_bool_and(" + repeated("b", n) + ", b)", n + 1},
			{"array_bool_or(" + repeated("true", n) + ", b)", n + 1},
			{"array_var_int_element(x, " + repeated("x", n) + ", x)", n + 2},
			{"fzn_all_different_int(" + repeated("x", n) + ")", n},
			{"fzn_cumulative(" + repeated("x", n) + ", " + repeated("1", n) + ", " + repeated("2", n) + ", 4)", n},
		} {
			text := begin + "constraint " + c.text + "; solve satisfy;"
			if c.x > 32 {
				expectError(t, text, 2, api.ErrBig)
			} else if err := holdJudge(t, parsed(t, text)); err != api.OK {
				t.Errorf("%s: %d", text, err)
			}
		}
	}
}

// P8.1: ErrArg for wrong numbers of X and A is told before too many X; an array of 64 elements is
// no error by itself.
func TestLongAndUnequal(t *testing.T) {
	begin := "var 1..9: x; var bool: b; array [1..64] of var int: X = " + repeated("x", 64) +
		"; array [1..64] of int: N = " + repeated("1", 64) + "; array [1..64] of var bool: Y = " + repeated("b", 64) + ";"
	for text, want := range map[string]api.Errno{
		"int_lin_eq(N, X, 1)":                         api.ErrBig,
		"int_lin_eq([1], X, 1)":                       api.ErrArg,
		"int_lin_eq(N, [x], 1)":                       api.ErrArg,
		"int_lin_eq_reif(N, X, 1, b)":                 api.ErrBig,
		"int_lin_le_imp([], X, 1, b)":                 api.ErrArg,
		"int_lin_le(" + repeated("1", 32) + ", X, 1)": api.ErrArg,
		"bool_clause(Y, Y)":                           api.ErrBig,
		"bool_clause([], Y)":                          api.ErrBig,
		"array_bool_and(Y, b)":                        api.ErrBig,
		"array_var_int_element(x, X, x)":              api.ErrBig,
		"fzn_all_different_int(X)":                    api.ErrBig,
		"fzn_all_different_int(N)":                    api.ErrBig,
		"fzn_cumulative(X, N, N, 1)":                  api.ErrBig,
		"fzn_cumulative(X, N, N, -1)":                 api.ErrArg,
		"fzn_cumulative(X, [1], N, 1)":                api.ErrArg,
		"fzn_cumulative([x], N, N, 1)":                api.ErrArg,
		"array_var_int_element(x, X, u)":              api.ErrName,
	} {
		expectError(t, begin+"constraint "+text+"; solve satisfy;", 5, want)
	}
	expectBuilt(t, begin+"constraint array_int_element(x, N, x); solve satisfy;", "1..9 0..1 / Element[0 0]"+fmt.Sprint(slices.Repeat([]int64{1}, 64))+"0 / 0 0 / ")
}

// P8.1: tables of 64 numbers, and of 65.
func TestLongTables(t *testing.T) {
	for n := 62; n <= 66; n++ {
		table := list(some(num(-7), n)...)
		x := parse.Item{Kind: parse.Constraint, Name: "array_int_element", Vals: []parse.Expr{ref("x0"), table, ref("x0")}}
		array := parse.Item{Kind: parse.ParArray, Name: "a", Size: int64(n), Vals: table.L}
		named := parse.Item{Kind: parse.Constraint, Name: "array_int_element", Vals: []parse.Expr{ref("x0"), ref("a"), ref("x0")}}
		if n > 64 {
			expectItemsError(t, joined(vars(1), []parse.Item{x}), 1, api.ErrArg)
			expectItemsError(t, joined(vars(1), []parse.Item{array, named}), 1, api.ErrArg)
			continue
		}
		expectLimit(t, joined(vars(1), []parse.Item{x}), 1, 1, 0)
		expectLimit(t, joined(vars(1), []parse.Item{array, named}), 1, 1, 0)
	}
}

// outputs are so many arrays that are printed.
func outputs(n int) []parse.Item {
	var l []parse.Item
	for i := range n {
		l = append(l, parse.Item{Kind: parse.VarArray, Name: fmt.Sprint("a", i), Out: true, Bool: i%3 == 0})
	}
	return l
}

// P8.1: 64 and 65 outputs, of Vars, of arrays and of both.
func TestManyOutputs(t *testing.T) {
	expectLimit(t, joined(outputs(64)), 0, 0, 64)
	expectItemsError(t, joined(outputs(65)), 64, api.ErrBig)
	printed := vars(64)
	for i := range printed {
		printed[i].Out = true
	}
	expectLimit(t, joined(printed), 64, 0, 64)
	expectBig(t, printed, "array [1..0] of var int: z :: output_array([1..0]) = [];")
	mixed := slices.Concat(outputs(30), printed[:34])
	expectLimit(t, joined(mixed), 34, 0, 64)
	for _, text := range []string{
		"var 1..2: z :: output_var;", "var bool: z :: output_var;", "var 1..2: z :: output_var = 1;",
		"array [1..1] of var int: z :: output_array([1..1]) = [x1];",
		"array [1..0] of var bool: z :: output_array([1..0]) = [];",
	} {
		expectFull(t, mixed[1:], outputs(1), text)
	}
	// What is not printed has no limit, and what else is wrong is told first.
	expectLimit(t, joined(mixed, parsed(t, "var 1..2: z; array [1..1] of var int: y = [x1]; int: n = 1; array [1..0] of int: k = [];")), 35, 0, 64)
	for text, want := range map[string]api.Errno{
		"var 3..1: z :: output_var;":                                      api.ErrArg,
		"var 1..3: z :: output_var = u;":                                  api.ErrName,
		"var bool: z :: output_var = 1;":                                  api.ErrType,
		"array [1..1] of var int: z :: output_array([1..1]) = [u];":       api.ErrName,
		"array [1..1] of var int: z :: output_array([1..1]) = [true];":    api.ErrType,
		"array [1..1] of var int: z :: output_array([1..1]) = [1048577];": api.ErrArg,
		"array [1..1] of var int: z :: output_array([1..1]) = [];":        api.ErrArg,
		"var 1..2: x1 :: output_var;":                                     api.ErrTwice,
	} {
		expectItemsError(t, joined(mixed, parsed(t, text)), 64, want)
	}
}
