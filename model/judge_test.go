package model_test

import (
	"fmt"
	"slices"
	"strings"
	"testing"

	"touchstone/api"
	"touchstone/model"
	"touchstone/parse"
	"touchstone/show"
)

// table is the chapter's: a name, the kind of its constraints, and its arguments.
const table = `
int_eq                Same       xx
bool_eq               Same       bb
bool2int              Same       bx
int_lin_eq            LinEq      IXi
int_lin_le            LinLe      IXi
int_lin_ne            LinNe      IXi
int_lin_eq_reif       LinEqReif  IXib
int_lin_le_reif       LinLeReif  IXib
int_lin_le_imp        LinLeImp   IXib
int_times             Times      xxx
int_min               Min        xxx
int_max               Max        xxx
int_abs               Abs        xx
bool_clause           Clause     BB
array_bool_and        And        Bb
array_bool_or         Or         Bb
bool_xor              Xor        bbb
array_int_element     Element    xIx
array_var_int_element VarElement xXx
fzn_all_different_int AllDiff    X
fzn_cumulative        Cumulative XIIi
`

// kindNames are the names of the kinds of constraints, the first of which is 1.
var kindNames = strings.Fields("LinEq LinLe LinNe LinEqReif LinLeReif LinLeImp Times Min Max Abs Clause And Or Xor Same Element VarElement AllDiff Cumulative")

// row is a row of the table.
type row struct {
	name string
	kind int
	args string
}

func rows() []row {
	var l []row
	for _, line := range strings.Split(strings.TrimSpace(table), "\n") {
		words := strings.Fields(line)
		l = append(l, row{words[0], slices.Index(kindNames, words[1]) + 1, words[2]})
	}
	return l
}

// permitted are, for each argument of the table, the letters of what may stand there: 1 is a number
// and t a truth value; of the names n is that of a Par, x of a Var, N of a ParArray and X of a
// VarArray of ints, and q, y, Q and Y are the same of bools.
var permitted = map[byte]string{'i': "1n", 'x': "1nx", 'q': "tq", 'b': "tqy", 'I': "N", 'X': "NX", 'B': "QY"}

// elements are what the elements of a list must be.
var elements = map[byte]byte{'I': 'i', 'X': 'x', 'B': 'b'}

// inside tells whether a number may be one of a model.
func inside(n int64) bool {
	return -1048576 <= n && n <= 1048576
}

// judge builds a problem as the chapter says it, line by line. An error is thrown.
type judge struct {
	letters map[string]byte
	values  map[string][]int64
	fixed   map[int64]int64
	solved  bool
	p       model.Problem
}

// judged is what Build is to answer.
func judged(l []parse.Item) (p model.Problem, at int, err api.Errno) {
	j := judge{letters: map[string]byte{}, values: map[string][]int64{}, fixed: map[int64]int64{}}
	defer func() {
		if thrown := recover(); thrown != nil {
			p, err = model.Problem{}, thrown.(api.Errno)
		}
	}()
	for at = 0; at < len(l); at++ {
		j.item(l[at])
	}
	need(j.solved, api.ErrNone)
	return j.p, 0, api.OK
}

func need(right bool, err api.Errno) {
	if !right {
		panic(err)
	}
}

// pick is the first letter for ints, and the second one for bools.
func pick(letters string, truth bool) byte {
	if truth {
		return letters[1]
	}
	return letters[0]
}

func (j *judge) item(x parse.Item) {
	need(show.Right(x), api.ErrArg)
	if x.Kind != parse.Constraint && x.Kind != parse.Solve {
		need(j.letters[x.Name] == 0, api.ErrTwice)
	}
	need(!j.solved, api.ErrForm)
	switch x.Kind {
	case parse.Par:
		need(inside(x.Vals[0].N), api.ErrArg)
		j.name(x, "nq", x.Vals[0].N)
	case parse.Var:
		for _, r := range x.Dom {
			need(r.Lo <= r.Hi && inside(r.Lo) && inside(r.Hi), api.ErrArg)
		}
		v := j.variable(wantDomain(x))
		if len(x.Vals) == 1 {
			j.constrain(api.Con{Kind: api.Same, X: []int{int(v), int(j.read(pick("xb", x.Bool), x.Vals[0])[0])}})
		}
		j.name(x, "xy", v)
	case parse.ParArray, parse.VarArray:
		need(int64(len(x.Vals)) == x.Size, api.ErrArg)
		for _, e := range x.Vals {
			need(e.Kind != parse.Num || inside(e.N), api.ErrArg)
		}
		letters, shapes := "NQ", "iq"
		if x.Kind == parse.VarArray {
			letters, shapes = "XY", "xb"
		}
		j.name(x, letters, j.readAll(pick(shapes, x.Bool), x.Vals)...)
	case parse.Constraint:
		j.constraint(x)
	case parse.Solve:
		j.solve(x)
	}
}

// name gives a name to values, and prints them if they are to be printed.
func (j *judge) name(x parse.Item, letters string, values ...int64) {
	j.letters[x.Name], j.values[x.Name] = pick(letters, x.Bool), values
	if x.Out {
		need(len(j.p.Outs) < 64, api.ErrBig)
		j.p.Outs = append(j.p.Outs, model.Out{Name: x.Name, Bool: x.Bool, Array: x.Kind == parse.VarArray, X: ints(values)})
	}
}

func ints(values []int64) []int {
	var l []int
	for _, v := range values {
		l = append(l, int(v))
	}
	return l
}

// wantDomain is the domain of a Var, each of whose ranges, if there are several, is a single number.
func wantDomain(x parse.Item) []api.Range {
	if x.Bool {
		return ranges(0, 1)
	}
	if len(x.Dom) == 1 {
		return ranges(x.Dom[0].Lo, x.Dom[0].Hi)
	}
	var numbers []int64
	for _, r := range x.Dom {
		numbers = append(numbers, r.Lo)
	}
	slices.Sort(numbers)
	var dom []api.Range
	for _, n := range slices.Compact(numbers) {
		if len(dom) > 0 && dom[len(dom)-1].Hi == n-1 {
			dom[len(dom)-1].Hi = n
		} else {
			dom = append(dom, api.Range{Lo: n, Hi: n})
		}
	}
	return dom
}

func (j *judge) variable(dom []api.Range) int64 {
	need(len(j.p.M.Doms) < 64, api.ErrBig)
	j.p.M.Doms = append(j.p.M.Doms, dom)
	return int64(len(j.p.M.Doms) - 1)
}

func (j *judge) constrain(c api.Con) {
	need(len(j.p.M.Cons) < 64, api.ErrBig)
	j.p.M.Cons = append(j.p.M.Cons, c)
}

// readAll are the values of some expressions together.
func (j *judge) readAll(shape byte, l []parse.Expr) []int64 {
	var values []int64
	for _, e := range l {
		values = append(values, j.read(shape, e)...)
	}
	return values
}

// read is what an argument of the table stands for: numbers, or variables.
func (j *judge) read(shape byte, e parse.Expr) []int64 {
	if e.Kind == parse.List {
		return j.readAll(elements[shape], e.L)
	}
	letter, values := byte('1'), []int64{e.N}
	switch e.Kind {
	case parse.Bool:
		letter = 't'
	case parse.Ref:
		letter, values = j.letters[e.S], j.values[e.S]
		need(letter != 0, api.ErrName)
	}
	need(strings.IndexByte(permitted[shape], letter) >= 0, api.ErrType)
	need(e.Kind != parse.Num || inside(e.N), api.ErrArg)
	if strings.IndexByte("xbXB", shape) < 0 || strings.IndexByte("xyXY", letter) >= 0 {
		return values
	}
	var fixed []int64
	for _, n := range values {
		if _, known := j.fixed[n]; !known {
			j.fixed[n] = j.variable(ranges(n, n))
		}
		fixed = append(fixed, j.fixed[n])
	}
	return fixed
}

func (j *judge) constraint(x parse.Item) {
	all := rows()
	at := slices.IndexFunc(all, func(r row) bool { return r.name == x.Name })
	need(at >= 0, api.ErrKnow)
	args, c := all[at].args, api.Con{Kind: all[at].kind}
	need(len(args) == len(x.Vals), api.ErrType)
	for i, e := range x.Vals {
		list := strings.IndexByte("IXB", args[i]) >= 0
		need(e.Kind == parse.Ref || list == (e.Kind == parse.List), api.ErrType)
	}
	for i, e := range x.Vals {
		values := j.read(args[i], e)
		switch args[i] {
		case 'i':
			c.C = values[0]
		case 'I':
			c.A = append(c.A, values...)
		default:
			c.X = append(c.X, ints(values)...)
			if args == "BB" {
				c.A = append(c.A, slices.Repeat([]int64{1 - 2*int64(i)}, len(values))...)
			}
		}
	}
	need(counted(c.Kind, len(c.X), len(c.A)), api.ErrArg)
	need(c.Kind != api.Cumulative || c.C >= 0 && !slices.ContainsFunc(c.A, negative), api.ErrArg)
	need(len(c.X) <= 32, api.ErrBig)
	j.constrain(c)
}

func negative(n int64) bool {
	return n < 0
}

// counted tells whether a constraint of a kind may have so many X and A, apart from MaxArity.
func counted(kind, x, a int) bool {
	if kind < 1 || kind > len(kindNames) {
		return false
	}
	switch kindNames[kind-1] {
	case "LinEq", "LinLe", "LinNe", "Clause":
		return a == x
	case "LinEqReif", "LinLeReif", "LinLeImp":
		return a == x-1
	case "Times", "Min", "Max", "Xor":
		return a == 0 && x == 3
	case "Abs", "Same":
		return a == 0 && x == 2
	case "And", "Or":
		return a == 0 && x > 0
	case "Element":
		return x == 2 && a > 0 && a < 65
	case "VarElement":
		return a == 0 && x > 2
	case "AllDiff":
		return a == 0
	}
	return a == x+x
}

func (j *judge) solve(x parse.Item) {
	j.solved = true
	if x.Ask != api.Satisfy {
		need(j.letters[x.Name] != 0, api.ErrName)
		need(j.letters[x.Name] == 'x', api.ErrType)
		j.p.M.Ask, j.p.M.Goal = x.Ask, int(j.values[x.Name][0])
	}
}

// told writes a problem down, in four parts: the domains, the constraints, what is asked, and what
// is printed. An empty slice is the same as none (R8).
func told(p model.Problem) string {
	var doms, cons, outs []string
	for _, dom := range p.M.Doms {
		var parts []string
		for _, r := range dom {
			parts = append(parts, fmt.Sprintf("%d..%d", r.Lo, r.Hi))
		}
		doms = append(doms, strings.Join(parts, "+"))
	}
	for _, c := range p.M.Cons {
		name := fmt.Sprint(c.Kind)
		if c.Kind >= 1 && c.Kind <= len(kindNames) {
			name = kindNames[c.Kind-1]
		}
		cons = append(cons, fmt.Sprintf("%s%v%v%d", name, c.X, c.A, c.C))
	}
	for _, out := range p.Outs {
		kind := map[bool]string{false: "int", true: "bool"}[out.Bool]
		if out.Array {
			kind += "s"
		}
		outs = append(outs, fmt.Sprintf("%s %s%v", kind, out.Name, out.X))
	}
	ask := fmt.Sprintf("%d %d", p.M.Ask, p.M.Goal)
	return strings.Join([]string{strings.Join(doms, " "), strings.Join(cons, " "), ask, strings.Join(outs, ", ")}, " / ")
}

// brief is what a failed test tells of items.
func brief(l []parse.Item) string {
	if text, err := show.Text(l); err == api.OK {
		return strings.ReplaceAll(text, "\n", " ")
	}
	return fmt.Sprintf("%d items %.600s", len(l), fmt.Sprintf("%+v", l))
}

// hold holds Build against what it is to answer.
func hold(t *testing.T, l []parse.Item, want model.Problem, wantAt int, wantErr api.Errno) {
	t.Helper()
	p, at, err := model.Build(l)
	if told(p) != told(want) || at != wantAt || err != wantErr {
		t.Errorf("%s\nBuild = %s, %d, %d; want %s, %d, %d", brief(l), told(p), at, err, told(want), wantAt, wantErr)
	}
	// P8.3: built.
	if err == api.OK {
		expectRight(t, p.M, true)
		expectVariables(t, p)
	}
}

// expectVariables asks that outputs name variables of the model.
func expectVariables(t *testing.T, p model.Problem) {
	t.Helper()
	for _, out := range p.Outs {
		for _, x := range out.X {
			if x < 0 || x >= len(p.M.Doms) {
				t.Errorf("%s: %s names the variable %d", told(p), out.Name, x)
			}
		}
	}
}

// holdJudge holds Build against the judge, and returns the error.
func holdJudge(t *testing.T, l []parse.Item) api.Errno {
	t.Helper()
	want, at, err := judged(l)
	hold(t, l, want, at, err)
	return err
}

// parsed are the items of a text.
func parsed(t *testing.T, text string) []parse.Item {
	t.Helper()
	l, at, err := parse.Text(text)
	if err != api.OK {
		t.Fatalf("%s: %d at %d", text, err, at)
	}
	return l
}

// expectBuilt asks for the problem of a text, told in four parts.
func expectBuilt(t *testing.T, text, want string) {
	t.Helper()
	l := parsed(t, text)
	p, at, err := model.Build(l)
	if told(p) != want || at != 0 || err != api.OK {
		t.Errorf("%s\nBuild = %s, %d, %d; want %s", text, told(p), at, err, want)
	}
	holdJudge(t, l)
}

// expectError asks for an error of a text.
func expectError(t *testing.T, text string, wantAt int, want api.Errno) {
	t.Helper()
	expectItemsError(t, parsed(t, text), wantAt, want)
}

// expectItemsError asks for an error of items, and for no problem beside it.
func expectItemsError(t *testing.T, l []parse.Item, wantAt int, want api.Errno) {
	t.Helper()
	hold(t, l, model.Problem{}, wantAt, want)
	if _, at, err := judged(l); at != wantAt || err != want {
		t.Errorf("%s\nthe judge says %d, %d; want %d, %d", brief(l), at, err, wantAt, want)
	}
}

// The values that are used by tests of several files.

func num(n int64) parse.Expr {
	return parse.Expr{Kind: parse.Num, N: n}
}

func truth(n int64) parse.Expr {
	return parse.Expr{Kind: parse.Bool, N: n}
}

func ref(name string) parse.Expr {
	return parse.Expr{Kind: parse.Ref, S: name}
}

func list(l ...parse.Expr) parse.Expr {
	return parse.Expr{Kind: parse.List, L: l}
}

// some are so many of one expression.
func some(x parse.Expr, n int) []parse.Expr {
	return slices.Repeat([]parse.Expr{x}, n)
}

// ranges are those with the given ends, two for each.
func ranges(ends ...int64) []api.Range {
	var l []api.Range
	for pair := range slices.Chunk(ends, 2) {
		l = append(l, api.Range{Lo: pair[0], Hi: pair[1]})
	}
	return l
}
