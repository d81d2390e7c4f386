package model_test

import (
	"reflect"
	"strings"
	"testing"

	"touchstone/api"
	"touchstone/model"
	"touchstone/parse"
)

// P8.1: the chapter's examples.
func TestExamples(t *testing.T) {
	expectBuilt(t, "var 1..3: x; constraint int_lin_le([2], [x], 4); solve maximize x;", "1..3 / LinLe[0][2]4 / 2 0 / ")
	expectBuilt(t, "var 1..3: x; constraint int_times(x, x, 3); solve satisfy;", "1..3 3..3 / Times[0 0 1][]0 / 0 0 / ")
	expectError(t, "constraint foo();", 0, api.ErrKnow)
}

// P8.1: each name of the table, with variables, with constants and with names of all kinds.
func TestEachName(t *testing.T) {
	const begin = `int: n = 3; int: z = -2; bool: q = true; bool: r = false;
		var 1..9: x; var 2..5: y; var bool: b; var bool: c;
		array [1..2] of int: as = [4, n]; array [1..2] of bool: qs = [false, q];
		array [1..2] of var int: xs = [y, x]; array [1..2] of var bool: bs = [c, b];
		constraint `
	for text, want := range map[string]string{
		"int_eq(x, y)":                         "/ Same[0 1][]0",
		"int_eq(n, x)":                         "3..3 / Same[4 0][]0",
		"int_eq(-7, -7)":                       "-7..-7 / Same[4 4][]0",
		"bool_eq(b, c)":                        "/ Same[2 3][]0",
		"bool_eq(true, r)":                     "1..1 0..0 / Same[4 5][]0",
		"bool2int(b, x)":                       "/ Same[2 0][]0",
		"bool2int(q, 1)":                       "1..1 / Same[4 4][]0",
		"bool2int(c, n)":                       "3..3 / Same[3 4][]0",
		"int_lin_eq([1, n], [x, y], z)":        "/ LinEq[0 1][1 3]-2",
		"int_lin_le(as, xs, 7)":                "/ LinLe[1 0][4 3]7",
		"int_lin_ne([0, -1, 2], [x, 8, x], n)": "8..8 / LinNe[0 4 0][0 -1 2]3",
		"int_lin_eq([], [], 0)":                "/ LinEq[][]0",
		"int_lin_eq_reif(as, xs, 7, b)":        "/ LinEqReif[1 0 2][4 3]7",
		"int_lin_le_reif([n], [n], n, false)":  "3..3 0..0 / LinLeReif[4 5][3]3",
		"int_lin_le_imp([], [], 5, q)":         "1..1 / LinLeImp[4][]5",
		"int_lin_le_imp([z], [z], z, c)":       "-2..-2 / LinLeImp[4 3][-2]-2",
		"int_times(x, y, 6)":                   "6..6 / Times[0 1 4][]0",
		"int_min(x, n, z)":                     "3..3 -2..-2 / Min[0 4 5][]0",
		"int_max(y, y, x)":                     "/ Max[1 1 0][]0",
		"int_abs(x, y)":                        "/ Abs[0 1][]0",
		"int_abs(-1, 1)":                       "-1..-1 1..1 / Abs[4 5][]0",
		"bool_clause([b, true], [c])":          "1..1 / Clause[2 4 3][1 1 -1]0",
		"bool_clause([], bs)":                  "/ Clause[3 2][-1 -1]0",
		"bool_clause(qs, [])":                  "0..0 1..1 / Clause[4 5][1 1]0",
		"bool_clause(bs, [q, b, q])":           "1..1 / Clause[3 2 4 2 4][1 1 -1 -1 -1]0",
		"bool_clause([], [])":                  "/ Clause[][]0",
		"array_bool_and(bs, b)":                "/ And[3 2 2][]0",
		"array_bool_and([], true)":             "1..1 / And[4][]0",
		"array_bool_or([b, q, c], r)":          "1..1 0..0 / Or[2 4 3 5][]0",
		"bool_xor(b, c, q)":                    "1..1 / Xor[2 3 4][]0",
		"array_int_element(x, as, y)":          "/ Element[0 1][4 3]0",
		"array_int_element(1, [n, 5, z], n)":   "1..1 3..3 / Element[4 5][3 5 -2]0",
		"array_var_int_element(x, xs, y)":      "/ VarElement[0 1 0 1][]0",
		"array_var_int_element(n, [n], n)":     "3..3 / VarElement[4 4 4][]0",
		"array_var_int_element(y, as, 9)":      "4..4 3..3 9..9 / VarElement[1 4 5 6][]0",
		"fzn_all_different_int(xs)":            "/ AllDiff[1 0][]0",
		"fzn_all_different_int(as)":            "4..4 3..3 / AllDiff[4 5][]0",
		"fzn_all_different_int([])":            "/ AllDiff[][]0",
		"fzn_all_different_int([x, n, x])":     "3..3 / AllDiff[0 4 0][]0",
		"fzn_cumulative(xs, as, [1, 2], n)":    "/ Cumulative[1 0][4 3 1 2]3",
		"fzn_cumulative([x], [n], [0], 0)":     "/ Cumulative[0][3 0]0",
		"fzn_cumulative([], [], [], 4)":        "/ Cumulative[][]4",
	} {
		expectBuilt(t, begin+text+"; solve satisfy;", "1..9 2..5 0..1 0..1 "+strings.TrimPrefix(want, " ")+" / 0 0 / ")
	}
}

// P8.1: the domains of ranges in no order, that touch, that come twice, and at the ends.
func TestDomains(t *testing.T) {
	for dom, want := range map[string]string{
		"1..3":                                   "1..3",
		"5..5":                                   "5..5",
		"-1048576..1048576":                      "-1048576..1048576",
		"1048576..1048576":                       "1048576..1048576",
		"-1048576..-1048576":                     "-1048576..-1048576",
		"{5}":                                    "5..5",
		"{1, 3}":                                 "1..1+3..3",
		"{1, 2, 3}":                              "1..3",
		"{3, 1, 2}":                              "1..3",
		"{3, 1}":                                 "1..1+3..3",
		"{7, 7}":                                 "7..7",
		"{2, 1, 2, 1}":                           "1..2",
		"{5, 1, 2}":                              "1..2+5..5",
		"{9, -3, 4, -2, 6, 5}":                   "-3..-2+4..6+9..9",
		"{0, -1, 1, 0, 3, -3}":                   "-3..-3+-1..1+3..3",
		"{1048576, -1048576}":                    "-1048576..-1048576+1048576..1048576",
		"{1048576, 1048575, -1048575, -1048576}": "-1048576..-1048575+1048575..1048576",
		"bool":                                   "0..1",
	} {
		expectBuilt(t, "var "+dom+": x; solve satisfy;", want+" /  / 0 0 / ")
		kind := "int"
		if dom == "bool" {
			kind = "bool"
		}
		expectBuilt(t, "var 0..9: w; var "+dom+": x :: output_var; solve satisfy;", "0..9 "+want+" /  / 0 0 / "+kind+" x[1]")
	}
}

// P8.1: a set of 256 numbers, in an order of its own.
func TestLongDomain(t *testing.T) {
	var all, odd []api.Range
	for i := range int64(256) {
		n := i * 77 % 256
		all = append(all, api.Range{Lo: n, Hi: n})
		odd = append(odd, api.Range{Lo: 2 * n, Hi: 2 * n})
	}
	for _, dom := range [][]api.Range{all, odd} {
		l := []parse.Item{{Kind: parse.Var, Name: "x", Dom: dom}, {Kind: parse.Solve}}
		holdJudge(t, l)
		p, _, err := model.Build(l)
		if want := map[bool]int{true: 1, false: 256}[&dom[0] == &all[0]]; err != api.OK || len(p.M.Doms[0]) != want {
			t.Errorf("%s, %d", told(p), err)
		}
	}
}

// P8.1: the values of Vars, as constraints Same behind those before.
func TestValues(t *testing.T) {
	for text, want := range map[string]string{
		"var 1..3: x = 2;":                                       "1..3 2..2 / Same[0 1][]0 / 0 0 / ",
		"var 1..3: x = 9;":                                       "1..3 9..9 / Same[0 1][]0 / 0 0 / ",
		"var 1..3: x; var 2..5: y = x;":                          "1..3 2..5 / Same[1 0][]0 / 0 0 / ",
		"int: n = 4; var 1..3: x = n;":                           "1..3 4..4 / Same[0 1][]0 / 0 0 / ",
		"var bool: b = true; var bool: c = false;":               "0..1 1..1 0..1 0..0 / Same[0 1][]0 Same[2 3][]0 / 0 0 / ",
		"bool: q = true; var bool: b = q; var bool: c = b;":      "0..1 1..1 0..1 / Same[0 1][]0 Same[2 0][]0 / 0 0 / ",
		"var 1..3: x = 2; var 2..2: y = 2; var 0..9: z = y;":     "1..3 2..2 2..2 0..9 / Same[0 1][]0 Same[2 1][]0 Same[3 2][]0 / 0 0 / ",
		"var 0..1: x = 1; constraint int_abs(x, 1);":             "0..1 1..1 / Same[0 1][]0 Abs[0 1][]0 / 0 0 / ",
		"var 1..3: x :: output_var = 3;":                         "1..3 3..3 / Same[0 1][]0 / 0 0 / int x[0]",
		"var bool: b :: output_var = false;":                     "0..1 0..0 / Same[0 1][]0 / 0 0 / bool b[0]",
		"constraint int_abs(3, 3); var {3}: x = 3; var 0..9: y;": "3..3 3..3 0..9 / Abs[0 0][]0 Same[1 0][]0 / 0 0 / ",
	} {
		expectBuilt(t, text+"solve satisfy;", want)
	}
}

// P8.1: a value has one fixed variable, whatever its type is, and it is no Var's.
func TestFixedVariables(t *testing.T) {
	for text, want := range map[string]string{
		"constraint int_abs(1, 1); constraint bool_eq(true, true);":                       "1..1 / Abs[0 0][]0 Same[0 0][]0 / 0 0 / ",
		"constraint bool_eq(false, true); constraint int_abs(0, 1);":                      "0..0 1..1 / Same[0 1][]0 Abs[0 1][]0 / 0 0 / ",
		"constraint bool2int(true, 1); constraint bool2int(false, 0);":                    "1..1 0..0 / Same[0 0][]0 Same[1 1][]0 / 0 0 / ",
		"var 1..1: x; constraint int_abs(x, 1);":                                          "1..1 1..1 / Abs[0 1][]0 / 0 0 / ",
		"var {5}: x; constraint int_abs(5, 5); var {5}: y;":                               "5..5 5..5 5..5 / Abs[1 1][]0 / 0 0 / ",
		"bool: q = true; int: n = 1; constraint bool2int(q, n); constraint int_abs(1,n);": "1..1 / Same[0 0][]0 Abs[0 0][]0 / 0 0 / ",
		"array [1..3] of var int: a = [7, 8, 7]; constraint int_abs(8, 7);":               "7..7 8..8 / Abs[1 0][]0 / 0 0 / ",
		"array [1..2] of int: a = [7, 8]; constraint int_abs(8, 7);":                      "8..8 7..7 / Abs[0 1][]0 / 0 0 / ",
		"constraint int_abs(-1048576, 1048576);":                                          "-1048576..-1048576 1048576..1048576 / Abs[0 1][]0 / 0 0 / ",
		"int: n = -1048576; int: m = 1048576; constraint int_lin_eq([n], [m], n);":        "1048576..1048576 / LinEq[0][-1048576]-1048576 / 0 0 / ",
	} {
		expectBuilt(t, text+"solve satisfy;", want)
	}
	expectBuilt(t, `array [1..1] of var bool: a = [true]; array [1..1] of var int: b = [1];
		constraint bool_clause(a, []); constraint fzn_all_different_int(b); solve satisfy;`,
		"1..1 / Clause[0][1]0 AllDiff[0][]0 / 0 0 / ")
}

// P8.1: Pars and ParArrays make neither variables nor constraints nor outputs.
func TestConstantsAlone(t *testing.T) {
	expectBuilt(t, `int: n = 1048576; int: m = -1048576; bool: q = true; bool: r = false; array [1..0] of int: a = [];
		array [1..4] of int: b = [n, m, 1048576, -1048576]; array [1..3] of bool: c = [q, true, r]; solve satisfy;`, " /  / 0 0 / ")
}

// P8.1: the elements of a VarArray, which are variables that exist or are made in order.
func TestVarArrays(t *testing.T) {
	for text, want := range map[string]string{
		"array [1..0] of var int: a :: output_array([1..0]) = [];":                                                    " /  / 0 0 / ints a[]",
		"array [1..0] of var bool: a :: output_array([1..0]) = [];":                                                   " /  / 0 0 / bools a[]",
		"array [1..2] of var int: a :: output_array([1..2]) = [3, -3];":                                               "3..3 -3..-3 /  / 0 0 / ints a[0 1]",
		"var 1..9: x; array [1..3] of var int: a :: output_array([1..3]) = [x, 4, x];":                                "1..9 4..4 /  / 0 0 / ints a[0 1 0]",
		"int: n = 6; var 1..9: x; array [1..4] of var int: a :: output_array([1..4]) = [n, 6, x, 5];":                 "1..9 6..6 5..5 /  / 0 0 / ints a[1 1 0 2]",
		"bool: q = true; var bool: b; array [1..4] of var bool: a :: output_array([1..4]) = [false, q, b, true];":     "0..1 0..0 1..1 /  / 0 0 / bools a[1 2 0 2]",
		"array [1..1] of var int: a = [3]; array [1..2] of var int: c :: output_array([1..2]) = [4, 3]; var 1..2: x;": "3..3 4..4 1..2 /  / 0 0 / ints c[1 0]",
	} {
		expectBuilt(t, text+"solve satisfy;", want)
	}
}

// P8.1: what is printed, in the items' order, and nothing else.
func TestOutputs(t *testing.T) {
	expectBuilt(t, `var 1..3: x :: output_var; var 1..4: y; var bool: b :: output_var;
		array [1..2] of var int: xs :: output_array([1..2]) = [y, x]; array [1..2] of var int: ys = [x, y];
		array [1..3] of var bool: bs :: output_array([1..3]) = [b, true, b]; var {2, 4}: z :: output_var = 2; solve minimize y;`,
		"1..3 1..4 0..1 1..1 2..2+4..4 2..2 / Same[4 5][]0 / 1 1 / int x[0], bool b[2], ints xs[1 0], bools bs[2 3 2], int z[4]")
	expectBuilt(t, "array [1..1] of var bool: x_1 :: output_array([1..1]) = [true]; var 0..0: _Z9 :: output_var; solve satisfy;",
		"1..1 0..0 /  / 0 0 / bools x_1[0], int _Z9[1]")
}

// P8.1: the requests.
func TestRequests(t *testing.T) {
	expectBuilt(t, "solve satisfy;", " /  / 0 0 / ")
	const begin = "constraint int_abs(4, 4); var 1..3: x; var bool: b; var {5, 7}: y; "
	const same = "4..4 1..3 0..1 5..5+7..7 / Abs[0 0][]0 / "
	expectBuilt(t, begin+"solve satisfy;", same+"0 0 / ")
	expectBuilt(t, begin+"solve minimize x;", same+"1 1 / ")
	expectBuilt(t, begin+"solve maximize x;", same+"2 1 / ")
	expectBuilt(t, begin+"solve minimize y;", same+"1 3 / ")
	expectBuilt(t, begin+"solve maximize y;", same+"2 3 / ")
}

// P8.1: a constraint's name is no name of a Par, a Var or an array, nor is a Solve's.
func TestNamesOfOtherKinds(t *testing.T) {
	expectBuilt(t, `constraint int_abs(1, 1); var 1..2: int_abs; constraint int_abs(int_abs, int_abs);
		constraint int_abs(1, int_abs); solve maximize int_abs;`, "1..1 1..2 / Abs[0 0][]0 Abs[1 1][]0 Abs[0 1][]0 / 2 1 / ")
	expectBuilt(t, `int: bool_eq = 2; constraint bool_eq(true, true); array [1..1] of int: bool2int = [bool_eq];
		constraint bool2int(true, bool_eq); solve satisfy;`, "1..1 2..2 / Same[0 0][]0 Same[0 1][]0 / 0 0 / ")
}

// clone are items that share no memory with l.
func clone(t *testing.T, text string, l []parse.Item) []parse.Item {
	again := parsed(t, text)
	if !reflect.DeepEqual(again, l) {
		t.Fatalf("%s is parsed to two things", text)
	}
	return again
}

// whole is a text that has all kinds of items.
const whole = `int: n = 3; bool: q = true; var {5, 1, 2}: x :: output_var; var 1..9: y = n; var bool: b :: output_var = q;
	array [1..2] of int: a = [2, n]; array [1..2] of bool: qs = [q, false];
	array [1..3] of var int: xs :: output_array([1..3]) = [x, 4, y]; array [1..3] of var bool: bs :: output_array([1..3]) = [b, true, b];
	constraint int_lin_le(a, [x, y], n); constraint bool_clause(bs, qs); constraint fzn_all_different_int(xs); constraint fzn_all_different_int(xs);
	constraint array_int_element(x, a, y); constraint array_int_element(y, a, x);
	constraint array_var_int_element(x, xs, y); constraint fzn_cumulative(a, a, a, 9); solve maximize y;`

// R4, R6: Build leaves the items as they are, and answers the same when it is asked again; what is
// done to an answer, or to the items, changes no other answer.
func TestArgumentsAndResults(t *testing.T) {
	l := parsed(t, whole)
	before := clone(t, whole, l)
	first, _, err := model.Build(l)
	second, _, _ := model.Build(l)
	want := told(first)
	if err != api.OK || told(second) != want || !reflect.DeepEqual(l, before) {
		t.Fatalf("%d, %s and %s from %v, before %v", err, want, told(second), l, before)
	}
	for i := range l {
		for k := range l[i].Vals {
			for e := range l[i].Vals[k].L {
				l[i].Vals[k].L[e] = num(77)
			}
			l[i].Vals[k] = num(77)
		}
		for k := range l[i].Dom {
			l[i].Dom[k] = api.Range{Lo: 77, Hi: 77}
		}
		l[i].Name = "spoilt"
	}
	if told(first) != want || told(second) != want {
		t.Errorf("%s became %s", want, told(first))
	}
	spoil(first)
	if told(second) != want {
		t.Errorf("%s became %s", want, told(second))
	}
	if third, _, _ := model.Build(before); told(third) != want {
		t.Errorf("%s became %s", want, told(third))
	}
}

// spoil writes to all that a problem holds.
func spoil(p model.Problem) {
	for _, dom := range p.M.Doms {
		spoilDom(dom)
	}
	for _, c := range p.M.Cons {
		spoilCon(c)
	}
	for _, out := range p.Outs {
		spoilOut(out)
	}
}

func spoilDom(dom []api.Range) {
	for i := range dom {
		dom[i] = api.Range{Lo: 66, Hi: 66}
	}
}

func spoilCon(c api.Con) {
	for i := range c.X {
		c.X[i] = 66
	}
	for i := range c.A {
		c.A[i] = 66
	}
}

func spoilOut(out model.Out) {
	for i := range out.X {
		out.X[i] = 66
	}
}

// R6: no two lists of one answer share any memory.
func TestNothingShared(t *testing.T) {
	p, _, _ := model.Build(parsed(t, whole))
	fresh, _, _ := model.Build(parsed(t, whole))
	want := told(fresh)
	expect := func(part string, i int) {
		if told(p) != want {
			t.Errorf("%s %d shares its memory: %s became %s", part, i, want, told(p))
		}
	}
	for i, dom := range p.M.Doms {
		spoilDom(dom)
		p.M.Doms[i] = fresh.M.Doms[i]
		expect("domain", i)
	}
	for i, c := range p.M.Cons {
		spoilCon(c)
		p.M.Cons[i] = fresh.M.Cons[i]
		expect("constraint", i)
	}
	for i, out := range p.Outs {
		spoilOut(out)
		p.Outs[i] = fresh.Outs[i]
		expect("output", i)
	}
}
