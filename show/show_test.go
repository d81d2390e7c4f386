package show_test

import (
	"slices"
	"strings"
	"testing"

	"touchstone/api"
	"touchstone/parse"
)

// sample is an item and its text.
type sample struct {
	text string
	item parse.Item
}

// samples are items of each Kind, with each of its texts.
func samples() []sample {
	return []sample{
		{"int: n = 0;", parse.Item{Kind: parse.Par, Name: "n", Vals: exprs(num(0))}},
		{"int: n = -3;", parse.Item{Kind: parse.Par, Name: "n", Vals: exprs(num(-3))}},
		{"bool: b = true;", parse.Item{Kind: parse.Par, Name: "b", Bool: true, Vals: exprs(truth(1))}},
		{"bool: b = false;", parse.Item{Kind: parse.Par, Name: "b", Bool: true, Vals: exprs(truth(0))}},
		{"var bool: c;", parse.Item{Kind: parse.Var, Name: "c", Bool: true}},
		{"var bool: c = false;", parse.Item{Kind: parse.Var, Name: "c", Bool: true, Vals: exprs(truth(0))}},
		{"var bool: c :: output_var;", parse.Item{Kind: parse.Var, Name: "c", Bool: true, Out: true}},
		{"var bool: c :: output_var = d;", parse.Item{Kind: parse.Var, Name: "c", Bool: true, Out: true, Vals: exprs(ref("d"))}},
		{"var 1..3: x;", parse.Item{Kind: parse.Var, Name: "x", Dom: ranges(1, 3)}},
		{"var 5..1: x;", parse.Item{Kind: parse.Var, Name: "x", Dom: ranges(5, 1)}},
		{"var -3..-1: x = -2;", parse.Item{Kind: parse.Var, Name: "x", Dom: ranges(-3, -1), Vals: exprs(num(-2))}},
		{"var 7..7: x :: output_var;", parse.Item{Kind: parse.Var, Name: "x", Dom: ranges(7, 7), Out: true}},
		{"var 0..1: x :: output_var = true;", parse.Item{Kind: parse.Var, Name: "x", Dom: ranges(0, 1), Out: true, Vals: exprs(truth(1))}},
		{"var {1, 3}: x;", parse.Item{Kind: parse.Var, Name: "x", Dom: singles(1, 3)}},
		{"var {3, -1, 3}: x = y;", parse.Item{Kind: parse.Var, Name: "x", Dom: singles(3, -1, 3), Vals: exprs(ref("y"))}},
		{"array [1..2] of int: a = [1, -2];", parse.Item{Kind: parse.ParArray, Name: "a", Size: 2, Vals: exprs(num(1), num(-2))}},
		{"array [1..0] of int: a = [];", parse.Item{Kind: parse.ParArray, Name: "a"}},
		{"array [1..1] of bool: a = [true];", parse.Item{Kind: parse.ParArray, Name: "a", Bool: true, Size: 1, Vals: exprs(truth(1))}},
		{"array [1..-4] of bool: a = [false, 2, y];", parse.Item{Kind: parse.ParArray, Name: "a", Bool: true, Size: -4, Vals: exprs(truth(0), num(2), ref("y"))}},
		{"array [1..2] of var int: a = [x, 4];", parse.Item{Kind: parse.VarArray, Name: "a", Size: 2, Vals: exprs(ref("x"), num(4))}},
		{"array [1..0] of var bool: a = [];", parse.Item{Kind: parse.VarArray, Name: "a", Bool: true}},
		{"array [1..2] of var int: a :: output_array([1..2]) = [x, x];", parse.Item{Kind: parse.VarArray, Name: "a", Size: 2, Out: true, Vals: exprs(ref("x"), ref("x"))}},
		{"array [1..9] of var bool: a :: output_array([1..9]) = [];", parse.Item{Kind: parse.VarArray, Name: "a", Bool: true, Size: 9, Out: true}},
		{"constraint f();", parse.Item{Kind: parse.Constraint, Name: "f"}},
		{"constraint f(x);", parse.Item{Kind: parse.Constraint, Name: "f", Vals: exprs(ref("x"))}},
		{"constraint f([]);", parse.Item{Kind: parse.Constraint, Name: "f", Vals: exprs(list())}},
		{"constraint f(1, [1, y], true, [], [false]);", parse.Item{Kind: parse.Constraint, Name: "f", Vals: exprs(num(1), list(num(1), ref("y")), truth(1), list(), list(truth(0)))}},
		{"solve satisfy;", parse.Item{Kind: parse.Solve, Ask: api.Satisfy}},
		{"solve minimize x;", parse.Item{Kind: parse.Solve, Ask: api.Minimize, Name: "x"}},
		{"solve maximize _y2;", parse.Item{Kind: parse.Solve, Ask: api.Maximize, Name: "_y2"}},
	}
}

// P7.1, P7.3: the text of each item.
func TestItemTexts(t *testing.T) {
	for _, s := range samples() {
		expectItem(t, s.item, s.text)
		hold(t, s.item)
	}
}

// The chapter's examples.
func TestExamples(t *testing.T) {
	expectItem(t, parse.Item{Kind: parse.Var, Name: "x", Dom: ranges(1, 3), Out: true}, "var 1..3: x :: output_var;")
	expectItem(t, parse.Item{Kind: parse.Var, Name: "x", Dom: ranges(1, 1, 3, 3), Vals: exprs(num(3))}, "var {1, 3}: x = 3;")
	expectItem(t, parse.Item{Kind: parse.Solve, Ask: api.Minimize, Name: "var"}, "")
}

// P7.1: a field that an item's Kind does not use makes it wrong, unless it is zero.
func TestUnusedFields(t *testing.T) {
	for _, s := range samples() {
		for _, change := range []func(x *parse.Item) bool{
			func(x *parse.Item) bool { x.Bool = true; return x.Kind == parse.Constraint || x.Kind == parse.Solve },
			func(x *parse.Item) bool { x.Dom = ranges(1, 3); return x.Kind != parse.Var || x.Bool },
			func(x *parse.Item) bool { x.Dom = singles(0, 1); return x.Kind != parse.Var || x.Bool },
			func(x *parse.Item) bool { x.Size = 1; return x.Kind != parse.ParArray && x.Kind != parse.VarArray },
			func(x *parse.Item) bool { x.Size = -1; return x.Kind != parse.ParArray && x.Kind != parse.VarArray },
			func(x *parse.Item) bool { x.Out = true; return x.Kind != parse.Var && x.Kind != parse.VarArray },
			func(x *parse.Item) bool { x.Ask = api.Minimize; return x.Kind != parse.Solve },
			func(x *parse.Item) bool { x.Ask = -1; return true },
			func(x *parse.Item) bool { x.Vals = exprs(ref("v")); return x.Kind == parse.Solve },
			func(x *parse.Item) bool { x.Name = "v"; return x.Kind == parse.Solve && x.Ask == api.Satisfy },
		} {
			x := s.item
			if change(&x) {
				expectItem(t, x, "")
			}
			hold(t, x)
		}
	}
}

// P7.1, R8: empty slices are as good as none.
func TestEmptySlices(t *testing.T) {
	for _, s := range samples() {
		x := s.item
		x.Vals = slices.Clone(x.Vals)
		if len(x.Dom) == 0 {
			x.Dom = []api.Range{}
		}
		if len(x.Vals) == 0 {
			x.Vals = []parse.Expr{}
		}
		for i := range x.Vals {
			if len(x.Vals[i].L) == 0 {
				x.Vals[i].L = []parse.Expr{}
			}
		}
		expectItem(t, x, s.text)
	}
}

// names are right and wrong ones; a wrong one may hold what would make a text of several items.
func names() []string {
	l := []string{"x", "_", "_1", "X9_z", "Var", "vars", "_var", "output", "true_", "A", "z", "",
		" ", " x", "x ", "x y", "x\n", "\tx", "x\r", "1", "-1", "1x", "-x", "x-", "x.", "x;", "x = 1", "x%", "% x", "%\nx", "x, y", "x)", "(x", "[x]", "x: y", ":x", "::", "\"x\"",
		"x;\nint: y = 1", "x = 1; int: y", "x; solve satisfy", "x :: output_var", "x :: output_var = 1; var 1..2: y", "x(); constraint y", "a; % ", "x\x00", "\x80", "é", "xé", "ｘ", "²"}
	return append(l, keywords...)
}

// P7.1: names, in each place of a name.
func TestNames(t *testing.T) {
	for _, name := range names() {
		for _, s := range samples() {
			x := s.item
			x.Name = name
			want := isName(name)
			if x.Kind == parse.Solve && x.Ask == api.Satisfy {
				want = name == ""
			}
			if hold(t, x) != want {
				t.Errorf("%q as the name of %q: %v", name, s.text, !want)
			}
		}
		for _, x := range []parse.Item{
			{Kind: parse.Var, Name: "v", Bool: true, Vals: exprs(ref(name))},
			{Kind: parse.ParArray, Name: "v", Size: 1, Vals: exprs(ref(name))},
			{Kind: parse.VarArray, Name: "v", Vals: exprs(num(1), ref(name))},
			{Kind: parse.Constraint, Name: "v", Vals: exprs(ref(name))},
			{Kind: parse.Constraint, Name: "v", Vals: exprs(truth(1), list(ref("x"), ref(name)), ref("y"))},
		} {
			if hold(t, x) != isName(name) {
				t.Errorf("%q in %+v", name, x)
			}
		}
	}
}

// P7.1: numbers at the ends of 64 bits, in each place of a number.
func TestNumbers(t *testing.T) {
	for n, text := range map[int64]string{
		least: "-9223372036854775808", least + 1: "-9223372036854775807", greatest: "9223372036854775807", greatest - 1: "9223372036854775806",
		-1 << 32: "-4294967296", 1 << 31: "2147483648", -10: "-10", -1: "-1", 0: "0", 1: "1", 9: "9", 10: "10", 1048577: "1048577",
	} {
		expectItem(t, parse.Item{Kind: parse.Par, Name: "v", Vals: exprs(num(n))}, "int: v = "+text+";")
		expectItem(t, parse.Item{Kind: parse.Var, Name: "v", Dom: ranges(n, 2)}, "var "+text+"..2: v;")
		expectItem(t, parse.Item{Kind: parse.Var, Name: "v", Dom: ranges(-2, n), Vals: exprs(num(n))}, "var -2.."+text+": v = "+text+";")
		expectItem(t, parse.Item{Kind: parse.Var, Name: "v", Dom: singles(n)}, "var "+text+".."+text+": v;")
		expectItem(t, parse.Item{Kind: parse.Var, Name: "v", Dom: singles(n, 3, n)}, "var {"+text+", 3, "+text+"}: v;")
		expectItem(t, parse.Item{Kind: parse.ParArray, Name: "v", Size: n, Vals: exprs(num(n))}, "array [1.."+text+"] of int: v = ["+text+"];")
		expectItem(t, parse.Item{Kind: parse.VarArray, Name: "v", Size: n, Out: true, Vals: exprs(num(n))}, "array [1.."+text+"] of var int: v :: output_array([1.."+text+"]) = ["+text+"];")
		expectItem(t, parse.Item{Kind: parse.Constraint, Name: "v", Vals: exprs(num(n), list(num(n)))}, "constraint v("+text+", ["+text+"]);")
	}
	expectItem(t, parse.Item{Kind: parse.Var, Name: "v", Dom: ranges(least, greatest)}, "var -9223372036854775808..9223372036854775807: v;")
	expectItem(t, parse.Item{Kind: parse.Var, Name: "v", Dom: ranges(greatest, least)}, "var 9223372036854775807..-9223372036854775808: v;")
}

// P7.1: domains that have no text.
func TestWrongDomains(t *testing.T) {
	for _, dom := range [][]api.Range{
		nil,
		{},
		ranges(1, 2, 3, 3),
		ranges(1, 1, 3, 4),
		ranges(1, 1, 4, 3),
		ranges(2, 1, 3, 3),
		ranges(1, 1, 2, 2, 3, 5, 6, 6),
		ranges(least, greatest, 1, 1),
		ranges(0, 1, 0, 1),
	} {
		for _, vals := range [][]parse.Expr{nil, exprs(num(1))} {
			expectItem(t, parse.Item{Kind: parse.Var, Name: "x", Dom: dom, Vals: vals}, "")
			expectItem(t, parse.Item{Kind: parse.Var, Name: "x", Dom: dom, Vals: vals, Out: true}, "")
		}
	}
	for _, dom := range [][]api.Range{ranges(0, 1), singles(0, 1), singles(0)} {
		expectItem(t, parse.Item{Kind: parse.Var, Name: "x", Bool: true, Dom: dom}, "")
	}
}

// P7.1: how many values a Par and a Var have, and of which kinds.
func TestWrongValues(t *testing.T) {
	for _, vals := range [][]parse.Expr{nil, exprs(truth(1)), exprs(ref("n")), exprs(list(num(1))), exprs(list()), exprs(num(1), num(2))} {
		expectItem(t, parse.Item{Kind: parse.Par, Name: "n", Vals: vals}, "")
	}
	for _, vals := range [][]parse.Expr{nil, exprs(num(1)), exprs(num(0)), exprs(ref("n")), exprs(truth(2)), exprs(truth(-1)), exprs(list(truth(1))), exprs(truth(1), truth(1))} {
		expectItem(t, parse.Item{Kind: parse.Par, Name: "n", Bool: true, Vals: vals}, "")
	}
	for _, vals := range [][]parse.Expr{exprs(num(1), num(1)), exprs(list(num(1))), exprs(list()), exprs(ref("x"), ref("y"), ref("z"))} {
		expectItem(t, parse.Item{Kind: parse.Var, Name: "x", Dom: ranges(1, 2), Vals: vals}, "")
		expectItem(t, parse.Item{Kind: parse.Var, Name: "x", Bool: true, Out: true, Vals: vals}, "")
	}
}

// P7.1: a Kind or an Ask that is none of those named.
func TestWrongKinds(t *testing.T) {
	for _, s := range samples() {
		for _, kind := range []int{0, -1, 7, 8, 255, least, greatest} {
			x := s.item
			x.Kind = kind
			expectItem(t, x, "")
		}
		for _, ask := range []int{-1, 3, 4, 256, least, greatest} {
			x := s.item
			x.Ask = ask
			expectItem(t, x, "")
		}
	}
	expectItem(t, parse.Item{}, "")
	expectItem(t, parse.Item{Kind: parse.Solve, Ask: api.Minimize}, "")
	expectItem(t, parse.Item{Kind: parse.Solve, Ask: api.Maximize}, "")
}

// wrongExprs are expressions that no text has.
func wrongExprs() []parse.Expr {
	return []parse.Expr{
		{}, {N: 1}, {S: "x"}, {Kind: -1}, {Kind: 5}, {Kind: 5, N: 1}, {Kind: least, S: "x"}, {Kind: greatest, L: exprs(num(1))},
		{Kind: parse.Num, N: 1, S: "1"}, {Kind: parse.Num, S: "x"}, {Kind: parse.Num, N: 1, L: exprs(num(1))},
		{Kind: parse.Bool, N: 2}, {Kind: parse.Bool, N: -1}, {Kind: parse.Bool, N: greatest}, {Kind: parse.Bool, N: least}, {Kind: parse.Bool, N: 1 << 32}, {Kind: parse.Bool, N: 1<<32 + 1}, {Kind: parse.Bool, N: 1, S: "true"}, {Kind: parse.Bool, S: "false"}, {Kind: parse.Bool, N: 1, L: exprs(truth(1))},
		{Kind: parse.Ref}, {Kind: parse.Ref, S: "x", N: 1}, {Kind: parse.Ref, S: "x", N: -1}, {Kind: parse.Ref, S: "x", L: exprs(ref("x"))}, {Kind: parse.Ref, S: "true"}, {Kind: parse.Ref, S: "false"}, {Kind: parse.Ref, S: "1"}, {Kind: parse.Ref, S: "-1"}, {Kind: parse.Ref, S: "[]"}, {Kind: parse.Ref, S: "[x]"}, {Kind: parse.Ref, S: "x, y"},
		{Kind: parse.List, N: 1}, {Kind: parse.List, S: "x"}, {Kind: parse.List, S: "[]"}, {Kind: parse.List, N: -1, S: "x", L: exprs(num(1))},
		list(list()), list(num(1), list(num(2))), list(list(num(1)), num(2)), list(list(list())),
	}
}

// P7.1: expressions that no text has, in each place of an expression.
func TestWrongExpressions(t *testing.T) {
	for _, wrong := range wrongExprs() {
		for _, vals := range [][]parse.Expr{exprs(wrong), exprs(num(1), wrong), exprs(wrong, ref("x")), exprs(ref("x"), wrong, truth(1)), exprs(wrong, wrong)} {
			for _, x := range []parse.Item{
				{Kind: parse.Par, Name: "v"},
				{Kind: parse.Par, Name: "v", Bool: true},
				{Kind: parse.Var, Name: "v", Bool: true},
				{Kind: parse.Var, Name: "v", Dom: ranges(1, 2), Out: true},
				{Kind: parse.ParArray, Name: "v", Size: int64(len(vals))},
				{Kind: parse.VarArray, Name: "v", Size: int64(len(vals)), Bool: true, Out: true},
				{Kind: parse.Constraint, Name: "v"},
				{Kind: parse.Solve},
			} {
				x.Vals = vals
				expectItem(t, x, "")
				x.Vals = exprs(list(vals...))
				expectItem(t, x, "")
			}
		}
	}
}

// P7.1, P7.3: all ways to fill the fields with some values each.
func TestAllFields(t *testing.T) {
	doms := [][]api.Range{nil, ranges(1, 3), ranges(3, 1), singles(2), singles(1, 3), ranges(1, 1, 3, 4), ranges(1, 2, 4, 4)}
	vals := [][]parse.Expr{nil, exprs(num(1)), exprs(num(-7)), exprs(truth(1)), exprs(truth(0)), exprs(truth(2)), exprs(ref("y")), exprs(ref("of")), exprs(list()), exprs(num(1), ref("y")), exprs(num(1), list(num(1))), exprs(list(list())), exprs(parse.Expr{}), some(num(1), 65)}
	right := 0
	for kind := range 8 {
		for _, name := range []string{"x", "", "solve", "x y"} {
			for bits := range 4 {
				for _, dom := range doms {
					for _, size := range []int64{0, 1, -5} {
						for _, l := range vals {
							for ask := range 4 {
								x := parse.Item{Kind: kind, Name: name, Bool: bits&1 != 0, Dom: dom, Size: size, Out: bits&2 != 0, Vals: l, Ask: ask}
								if hold(t, x) {
									right++
								}
							}
						}
					}
				}
			}
		}
	}
	// 4 Pars; Vars of a bool and of 4 other domains, with Out or not, of 6 values each; 2 ParArrays
	// and 4 VarArrays, of 3 sizes and 7 lists each; 9 Constraints; 3 Solves.
	if want := 4 + 5*2*6 + 6*3*7 + 9 + 3; right != want {
		t.Errorf("%d right items; want %d", right, want)
	}
}

// P7.2: the items' texts, each with a line feed behind it.
func TestText(t *testing.T) {
	expectText(t, nil, "", api.OK)
	expectText(t, []parse.Item{}, "", api.OK)
	var all []parse.Item
	var text strings.Builder
	for _, s := range samples() {
		expectText(t, []parse.Item{s.item}, s.text+"\n", api.OK)
		expectText(t, []parse.Item{s.item, s.item}, s.text+"\n"+s.text+"\n", api.OK)
		all = append(all, s.item)
		text.WriteString(s.text + "\n")
	}
	expectText(t, all, text.String(), api.OK)
	slices.Reverse(all)
	reversed := strings.Split(strings.TrimSuffix(text.String(), "\n"), "\n")
	slices.Reverse(reversed)
	expectText(t, all, strings.Join(reversed, "\n")+"\n", api.OK)
}

// P7.2: one item that is not valid, wherever it stands.
func TestTextOfWrongItems(t *testing.T) {
	all := samples()
	for i, wrong := range []parse.Item{
		{},
		{Kind: parse.Solve, Ask: 3},
		{Kind: parse.Par, Name: "n"},
		{Kind: parse.Var, Name: "x"},
		{Kind: parse.Var, Name: "x; solve satisfy", Bool: true},
		{Kind: parse.ParArray, Name: "a", Out: true},
		{Kind: parse.Constraint, Name: "f", Vals: exprs(list(list()))},
	} {
		x, y := all[i*3].item, all[i*4+1].item
		for _, l := range [][]parse.Item{{wrong}, {wrong, x}, {x, wrong}, {x, wrong, y}, {wrong, wrong}, {x, y, x, y, wrong}} {
			expectText(t, l, "", api.ErrArg)
		}
	}
}
