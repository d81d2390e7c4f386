package parse_test

import (
	"fmt"
	"reflect"
	"testing"

	"touchstone/api"
	"touchstone/parse"
)

func num(n int64) parse.Expr {
	return parse.Expr{Kind: parse.Num, N: n}
}

func truth(b bool) parse.Expr {
	if b {
		return parse.Expr{Kind: parse.Bool, N: 1}
	}
	return parse.Expr{Kind: parse.Bool}
}

func ref(name string) parse.Expr {
	return parse.Expr{Kind: parse.Ref, S: name}
}

func list(l ...parse.Expr) parse.Expr {
	return parse.Expr{Kind: parse.List, L: l}
}

func exprs(l ...parse.Expr) []parse.Expr {
	return l
}

func ranges(ends ...int64) []api.Range {
	var l []api.Range
	for i := 0; i < len(ends); i += 2 {
		l = append(l, api.Range{Lo: ends[i], Hi: ends[i+1]})
	}
	return l
}

// plainExprs are the expressions with nil for each empty slice, since the two are equivalent (R8).
func plainExprs(l []parse.Expr) []parse.Expr {
	var plain []parse.Expr
	for _, x := range l {
		x.L = plainExprs(x.L)
		plain = append(plain, x)
	}
	return plain
}

func plainItems(l []parse.Item) []parse.Item {
	var plain []parse.Item
	for _, x := range l {
		x.Vals = plainExprs(x.Vals)
		x.Dom = append([]api.Range(nil), x.Dom...)
		plain = append(plain, x)
	}
	return plain
}

func equal(a, b []parse.Item) bool {
	return reflect.DeepEqual(plainItems(a), plainItems(b))
}

// brief is what a failed test tells of items.
func brief(l []parse.Item) string {
	return fmt.Sprintf("%d items %.300s", len(l), fmt.Sprintf("%+v", l))
}

func expectItems(t *testing.T, s string, want ...parse.Item) {
	t.Helper()
	if l, at, err := parse.Text(s); !equal(l, want) || at != 0 || err != api.OK {
		t.Errorf("Text(%.80q of %d) = %s, %d, %d; want %s", s, len(s), brief(l), at, err, brief(want))
	}
}

// expectError asks for an error, and for P6.2 and R3 beside it.
func expectError(t *testing.T, s string, wantAt int, want api.Errno) {
	t.Helper()
	if l, at, err := parse.Text(s); len(l) != 0 || at != wantAt || err != want || at > len(s) {
		t.Errorf("Text(%.80q of %d) = %s, %d, %d; want the error %d at %d", s, len(s), brief(l), at, err, want, wantAt)
	}
}

// P6.1: the numbers that the chapter gives.
func TestConstants(t *testing.T) {
	items := []int{parse.Par, parse.Var, parse.ParArray, parse.VarArray, parse.Constraint, parse.Solve}
	if want := []int{1, 2, 3, 4, 5, 6}; !reflect.DeepEqual(items, want) {
		t.Errorf("%v; want %v", items, want)
	}
	kinds := []int{parse.Num, parse.Bool, parse.Ref, parse.List}
	if want := []int{1, 2, 3, 4}; !reflect.DeepEqual(kinds, want) {
		t.Errorf("%v; want %v", kinds, want)
	}
}

// The chapter's examples.
func TestExamples(t *testing.T) {
	expectItems(t, "var 1..3: x :: output_var;", parse.Item{Kind: parse.Var, Name: "x", Dom: ranges(1, 3), Out: true})
	expectItems(t, "constraint int_le(x, [1, y]);", parse.Item{Kind: parse.Constraint, Name: "int_le", Vals: exprs(ref("x"), list(num(1), ref("y")))})
	expectError(t, "solve satisfy", 13, api.ErrEnd)
	expectError(t, "array [2..3] of int: a = [];", 7, api.ErrForm)
	expectError(t, "int: var = 1;", 5, api.ErrForm)
}

// P6.1: texts of no items.
func TestNoItems(t *testing.T) {
	for _, s := range []string{"", " ", "\t\r\n", "%", "% int: a = 1;", "%\n%\n", "\n% x ?\n "} {
		expectItems(t, s)
	}
}

// P6.1: the fields of a Par.
func TestPar(t *testing.T) {
	for s, n := range map[string]int64{"0": 0, "1": 1, "-1": -1, "-0": 0, "007": 7, "-012": -12, "9223372036854775807": 1<<63 - 1, "-9223372036854775808": -1 << 63} {
		expectItems(t, "int: n = "+s+";", parse.Item{Kind: parse.Par, Name: "n", Vals: exprs(num(n))})
	}
	expectItems(t, "bool: b = true;", parse.Item{Kind: parse.Par, Name: "b", Bool: true, Vals: exprs(truth(true))})
	expectItems(t, "bool: b_2 = false;", parse.Item{Kind: parse.Par, Name: "b_2", Bool: true, Vals: exprs(truth(false))})
}

// P6.1: the domains of a Var, which need not be in order.
func TestVarDomains(t *testing.T) {
	expectItems(t, "var bool: x;", parse.Item{Kind: parse.Var, Name: "x", Bool: true})
	for dom, want := range map[string][]api.Range{
		"1..3":   ranges(1, 3),
		"-3..-1": ranges(-3, -1),
		"0..0":   ranges(0, 0),
		"3..1":   ranges(3, 1),
		"-9223372036854775808..9223372036854775807": ranges(-1<<63, 1<<63-1),
		"{5}":            ranges(5, 5),
		"{1, 3}":         ranges(1, 1, 3, 3),
		"{3, 1, 2, 1}":   ranges(3, 3, 1, 1, 2, 2, 1, 1),
		"{-1, 007, -0}":  ranges(-1, -1, 7, 7, 0, 0),
		"{ 1,2 ,3 , 4 }": ranges(1, 1, 2, 2, 3, 3, 4, 4),
	} {
		expectItems(t, "var "+dom+": x;", parse.Item{Kind: parse.Var, Name: "x", Dom: want})
	}
	expectError(t, "var {1048577, -9e}: x;", 16, api.ErrForm)
	expectError(t, "var {1, 2, 3, 1..2}: x;", 15, api.ErrForm)
}

// P6.1: what stands behind the name of a Var.
func TestVarValues(t *testing.T) {
	for value, want := range map[string][]parse.Expr{"": nil, " = 7": exprs(num(7)), "= -7": exprs(num(-7)), "=true": exprs(truth(true)), " = false": exprs(truth(false)), " = y": exprs(ref("y")), " = x": exprs(ref("x"))} {
		expectItems(t, "var 1..3: x"+value+";", parse.Item{Kind: parse.Var, Name: "x", Dom: ranges(1, 3), Vals: want})
		expectItems(t, "var 1..3: x :: output_var"+value+";", parse.Item{Kind: parse.Var, Name: "x", Dom: ranges(1, 3), Out: true, Vals: want})
		expectItems(t, "var {4}: x::output_var "+value+";", parse.Item{Kind: parse.Var, Name: "x", Dom: ranges(4, 4), Out: true, Vals: want})
		expectItems(t, "var bool: x"+value+";", parse.Item{Kind: parse.Var, Name: "x", Bool: true, Vals: want})
		expectItems(t, "var bool: x :: output_var"+value+";", parse.Item{Kind: parse.Var, Name: "x", Bool: true, Out: true, Vals: want})
	}
}

// lists are texts of lists without lists in them, and their elements.
func lists() map[string][]parse.Expr {
	return map[string][]parse.Expr{
		"[]":                     nil,
		"[1]":                    exprs(num(1)),
		"[ x ]":                  exprs(ref("x")),
		"[true, false]":          exprs(truth(true), truth(false)),
		"[x, -2, true, y, x, 3]": exprs(ref("x"), num(-2), truth(true), ref("y"), ref("x"), num(3)),
	}
}

// P6.1: the fields of the arrays. How many elements there are, and of which kinds, is not asked.
func TestArrays(t *testing.T) {
	for text, want := range lists() {
		for size, n := range map[string]int64{"0": 0, "1": 1, "2": 2, "06": 6, "-1": -1, "9223372036854775807": 1<<63 - 1} {
			for _, kind := range []string{"int", "bool"} {
				begin := "array [1.." + size + "] of "
				x := parse.Item{Kind: parse.ParArray, Name: "a", Bool: kind == "bool", Size: n, Vals: want}
				expectItems(t, begin+kind+": a = "+text+";", x)
				x.Kind = parse.VarArray
				expectItems(t, begin+"var "+kind+": a = "+text+";", x)
				x.Out = true
				expectItems(t, begin+"var "+kind+": a :: output_array([1.."+size+"]) = "+text+";", x)
			}
		}
	}
}

// P6.1: a number that must be 1, or the size, is held against it by its value.
func TestNumbersThatMustBe(t *testing.T) {
	want := parse.Item{Kind: parse.VarArray, Name: "a", Size: 12, Out: true}
	expectItems(t, "array [01..12] of var int: a :: output_array([001..0012]) = [];", want)
	expectItems(t, "array [1..012] of var int: a :: output_array([1..12]) = [];", want)
	for _, wrong := range []string{"0", "-1", "2", "11", "-01", "10", "12", "4294967297", "-9223372036854775807"} {
		expectError(t, "array ["+wrong+"..12] of var int: a = [];", 7, api.ErrForm)
		expectError(t, "array ["+wrong+"..12] of int: a = [];", 7, api.ErrForm)
		expectError(t, "array [1..12] of var int: a :: output_array(["+wrong+"..12]) = [];", 45, api.ErrForm)
		if wrong != "12" {
			expectError(t, "array [1..12] of var int: a :: output_array([1.."+wrong+"]) = [];", 48, api.ErrForm)
		}
	}
	expectError(t, "array [1..1] of var int: a :: output_array([1..x]) = [];", 47, api.ErrForm)
	expectError(t, "array [1..12] of var int: a :: output_array([1..13]) = [];", 48, api.ErrForm)
	expectError(t, "array [1..-2] of var int: a :: output_array([1..2]) = [];", 48, api.ErrForm)
	for _, wrong := range []string{"x", "]", "..", "true", "1", "-1"} {
		expectError(t, "array [1..0] of var int: a :: output_array([1.."+wrong+"]) = [];", 47, api.ErrForm)
	}
	expectItems(t, "array [1..-2] of var int: a :: output_array([1..-02]) = [];", parse.Item{Kind: parse.VarArray, Name: "a", Size: -2, Out: true})
}

// P6.1: the size that is asked again is that of the same array, not of another.
func TestSizeOfEachArray(t *testing.T) {
	const first = "array [1..3] of var int: a :: output_array([1..3]) = [];"
	expectItems(t, first+"array [1..2] of var bool: b :: output_array([1..2]) = [];",
		parse.Item{Kind: parse.VarArray, Name: "a", Size: 3, Out: true},
		parse.Item{Kind: parse.VarArray, Name: "b", Size: 2, Bool: true, Out: true})
	expectError(t, first+"array [1..2] of var bool: b :: output_array([1..3]) = [];", len(first)+48, api.ErrForm)
}

// P6.1: the arguments of a Constraint.
func TestConstraint(t *testing.T) {
	for text, want := range lists() {
		args := text[1 : len(text)-1]
		expectItems(t, "constraint c("+args+");", parse.Item{Kind: parse.Constraint, Name: "c", Vals: want})
		expectItems(t, "constraint c("+text+");", parse.Item{Kind: parse.Constraint, Name: "c", Vals: exprs(list(want...))})
		expectItems(t, "constraint c("+text+", 1, "+text+");", parse.Item{Kind: parse.Constraint, Name: "c", Vals: exprs(list(want...), num(1), list(want...))})
		expectItems(t, "constraint c(x,"+text+",true);", parse.Item{Kind: parse.Constraint, Name: "c", Vals: exprs(ref("x"), list(want...), truth(true))})
	}
	expectItems(t, "constraint c([],[],[c]);", parse.Item{Kind: parse.Constraint, Name: "c", Vals: exprs(list(), list(), list(ref("c")))})
	expectError(t, "constraint c([[]]);", 14, api.ErrForm)
	expectError(t, "constraint c([1, [1]]);", 17, api.ErrForm)
	expectError(t, "constraint c(d());", 14, api.ErrForm)
}

// P6.1: the three requests.
func TestSolve(t *testing.T) {
	expectItems(t, "solve satisfy;", parse.Item{Kind: parse.Solve, Ask: api.Satisfy})
	expectItems(t, "solve minimize x;", parse.Item{Kind: parse.Solve, Ask: api.Minimize, Name: "x"})
	expectItems(t, "solve maximize minimum;", parse.Item{Kind: parse.Solve, Ask: api.Maximize, Name: "minimum"})
	expectError(t, "solve satisfy x;", 14, api.ErrForm)
	expectError(t, "solve minimize;", 14, api.ErrForm)
	expectError(t, "solve minimize 1;", 15, api.ErrForm)
	expectError(t, "solve maximize [x];", 15, api.ErrForm)
	expectError(t, "solve;", 5, api.ErrForm)
	expectError(t, "solve x;", 6, api.ErrForm)
}

// P6.1: several items, which need not fit together: names twice, names that no item has, items
// behind a Solve.
func TestSeveralItems(t *testing.T) {
	expectItems(t, "solve satisfy;int: a = 1; bool: a = true;\n\nsolve minimize b;var -1..1:a;",
		parse.Item{Kind: parse.Solve},
		parse.Item{Kind: parse.Par, Name: "a", Vals: exprs(num(1))},
		parse.Item{Kind: parse.Par, Name: "a", Bool: true, Vals: exprs(truth(true))},
		parse.Item{Kind: parse.Solve, Ask: api.Minimize, Name: "b"},
		parse.Item{Kind: parse.Var, Name: "a", Dom: ranges(-1, 1)})
	expectError(t, "solve satisfy;int: a = 1; bool: a = true;\n\nsolve minimize b;var a..1:x;", 64, api.ErrForm)
	expectError(t, "int: a = 1;; int: b = 2;", 11, api.ErrForm)
	expectError(t, "int: a = 1 int: b = 2;", 11, api.ErrForm)
}
