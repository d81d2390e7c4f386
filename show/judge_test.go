package show_test

import (
	"fmt"
	"reflect"
	"regexp"
	"slices"
	"strings"
	"testing"

	"touchstone/api"
	"touchstone/parse"
	"touchstone/show"
)

const (
	least    = -1 << 63
	greatest = 1<<63 - 1
)

var (
	nameForm  = regexp.MustCompile(`^[A-Za-z_][A-Za-z0-9_]*$`)
	tokenForm = regexp.MustCompile(`[A-Za-z0-9_-]+|::|\.\.|[:{}\[\](),;=]`)
	keywords  = []string{"array", "bool", "constraint", "false", "int", "maximize", "minimize", "of", "output_array", "output_var", "satisfy", "solve", "true", "var"}
)

func num(n int64) parse.Expr {
	return parse.Expr{Kind: parse.Num, N: n}
}

func truth(n int64) parse.Expr {
	return parse.Expr{Kind: parse.Bool, N: n}
}

func ref(name string) parse.Expr {
	return parse.Expr{Kind: parse.Ref, S: name}
}

func list(l ...parse.Expr) parse.Expr {
	return parse.Expr{Kind: parse.List, L: l}
}

func exprs(l ...parse.Expr) []parse.Expr {
	return l
}

// some are so many of one expression.
func some(x parse.Expr, n int) []parse.Expr {
	return slices.Repeat(exprs(x), n)
}

// ranges are those with the given ends, two for each.
func ranges(ends ...int64) []api.Range {
	var l []api.Range
	for pair := range slices.Chunk(ends, 2) {
		l = append(l, api.Range{Lo: pair[0], Hi: pair[1]})
	}
	return l
}

// singles are ranges of one number each.
func singles(numbers ...int64) []api.Range {
	var l []api.Range
	for _, n := range numbers {
		l = append(l, api.Range{Lo: n, Hi: n})
	}
	return l
}

// isName tells whether a text is a name that is not a keyword.
func isName(s string) bool {
	return nameForm.MatchString(s) && !slices.Contains(keywords, s)
}

// isPlain tells, by its fields, whether an expression is a right one that is not a list.
func isPlain(x parse.Expr) bool {
	switch x.Kind {
	case parse.Num:
		return x.S == "" && len(x.L) == 0
	case parse.Bool:
		return x.S == "" && len(x.L) == 0 && (x.N == 0 || x.N == 1)
	case parse.Ref:
		return x.N == 0 && len(x.L) == 0 && isName(x.S)
	}
	return false
}

// arePlain tells whether expressions are a right list.
func arePlain(l []parse.Expr) bool {
	return len(l) <= 64 && !slices.ContainsFunc(l, func(x parse.Expr) bool { return !isPlain(x) })
}

// areArguments tells whether expressions are right as those of a constraint.
func areArguments(l []parse.Expr) bool {
	return len(l) <= 64 && !slices.ContainsFunc(l, func(x parse.Expr) bool {
		return !isPlain(x) && !(x.Kind == parse.List && x.N == 0 && x.S == "" && arePlain(x.L))
	})
}

func isDomain(l []api.Range) bool {
	several := func(r api.Range) bool { return r.Lo != r.Hi }
	return len(l) == 1 || len(l) > 1 && len(l) <= 256 && !slices.ContainsFunc(l, several)
}

// isRight tells, by its fields, whether an item is valid; its length is not asked.
func isRight(x parse.Item) bool {
	rest := x
	rest.Kind, rest.Name, rest.Vals = 0, "", nil
	nothing := func() bool {
		rest.Dom = slices.Concat(rest.Dom)
		return reflect.DeepEqual(rest, parse.Item{})
	}
	named := isName(x.Name)
	switch x.Kind {
	case parse.Par:
		rest.Bool = false
		kind := parse.Num
		if x.Bool {
			kind = parse.Bool
		}
		return nothing() && named && arePlain(x.Vals) && len(x.Vals) == 1 && x.Vals[0].Kind == kind
	case parse.Var:
		rest.Bool, rest.Dom, rest.Out = false, nil, false
		return nothing() && named && arePlain(x.Vals) && len(x.Vals) <= 1 && (x.Bool && len(x.Dom) == 0 || !x.Bool && isDomain(x.Dom))
	case parse.ParArray, parse.VarArray:
		rest.Bool, rest.Size, rest.Out = false, 0, false
		return nothing() && named && arePlain(x.Vals) && (x.Kind == parse.VarArray || !x.Out)
	case parse.Constraint:
		return nothing() && named && areArguments(x.Vals)
	case parse.Solve:
		rest.Ask = 0
		asks := x.Ask == api.Satisfy && x.Name == "" || (x.Ask == api.Minimize || x.Ask == api.Maximize) && named
		return nothing() && asks && len(x.Vals) == 0
	}
	return false
}

// joined are the texts of expressions, with commas between them.
func joined(l []parse.Expr) string {
	var texts []string
	for _, x := range l {
		texts = append(texts, map[int]string{
			parse.Num:  fmt.Sprint(x.N),
			parse.Bool: fmt.Sprint(x.N == 1),
			parse.Ref:  x.S,
			parse.List: "[" + joined(x.L) + "]",
		}[x.Kind])
	}
	return strings.Join(texts, ", ")
}

func domText(x parse.Item) string {
	if x.Bool {
		return "bool"
	}
	if len(x.Dom) == 1 {
		return fmt.Sprintf("%d..%d", x.Dom[0].Lo, x.Dom[0].Hi)
	}
	var numbers []string
	for _, r := range x.Dom {
		numbers = append(numbers, fmt.Sprint(r.Lo))
	}
	return "{" + strings.Join(numbers, ", ") + "}"
}

// wantText is the text of an item whose fields are right.
func wantText(x parse.Item) string {
	kind := map[bool]string{false: "int", true: "bool"}[x.Bool]
	out, value := "", ""
	switch x.Kind {
	case parse.Par:
		return fmt.Sprintf("%s: %s = %s;", kind, x.Name, joined(x.Vals))
	case parse.Var:
		if x.Out {
			out = " :: output_var"
		}
		if len(x.Vals) == 1 {
			value = " = " + joined(x.Vals)
		}
		return fmt.Sprintf("var %s: %s%s%s;", domText(x), x.Name, out, value)
	case parse.ParArray:
		return fmt.Sprintf("array [1..%d] of %s: %s = [%s];", x.Size, kind, x.Name, joined(x.Vals))
	case parse.VarArray:
		if x.Out {
			out = fmt.Sprintf(" :: output_array([1..%d])", x.Size)
		}
		return fmt.Sprintf("array [1..%d] of var %s: %s%s = [%s];", x.Size, kind, x.Name, out, joined(x.Vals))
	case parse.Constraint:
		return fmt.Sprintf("constraint %s(%s);", x.Name, joined(x.Vals))
	}
	if x.Ask == api.Satisfy {
		return "solve satisfy;"
	}
	return fmt.Sprintf("solve %s %s;", map[int]string{api.Minimize: "minimize", api.Maximize: "maximize"}[x.Ask], x.Name)
}

// fits tells whether a text is not too long to be parsed.
func fits(text string) bool {
	return len(text) <= 8192 && len(tokenForm.FindAllString(text, -1)) <= 4096
}

// wantItem is what Item is to answer.
func wantItem(x parse.Item) (string, api.Errno) {
	if !isRight(x) {
		return "", api.ErrArg
	}
	if text := wantText(x); fits(text) {
		return text, api.OK
	}
	return "", api.ErrArg
}

// plainExprs are the expressions with nil for each empty slice, since the two are equivalent (R8).
func plainExprs(l []parse.Expr) []parse.Expr {
	var plain []parse.Expr
	for _, x := range l {
		x.L = plainExprs(x.L)
		plain = append(plain, x)
	}
	return plain
}

func plainItems(l []parse.Item) []parse.Item {
	var plain []parse.Item
	for _, x := range l {
		x.Vals = plainExprs(x.Vals)
		x.Dom = append([]api.Range(nil), x.Dom...)
		plain = append(plain, x)
	}
	return plain
}

// expectBack asks for P7.3: that a text is parsed to these items.
func expectBack(t *testing.T, text string, want []parse.Item) {
	t.Helper()
	l, at, err := parse.Text(text)
	if !reflect.DeepEqual(plainItems(l), plainItems(want)) || at != 0 || err != api.OK {
		t.Errorf("Text(%.80q of %d) = %.300s, %d, %d; want %.300s", text, len(text), fmt.Sprint(l), at, err, fmt.Sprint(want))
	}
}

// expectItem asks for a text and that it leads back, or, if it is empty, for ErrArg.
func expectItem(t *testing.T, x parse.Item, want string) {
	t.Helper()
	wantErr := api.OK
	if want == "" {
		wantErr = api.ErrArg
	}
	if text, err := show.Item(x); text != want || err != wantErr {
		t.Errorf("Item(%.300s) = %.80q, %d; want %.80q, %d", fmt.Sprintf("%+v", x), text, err, want, wantErr)
	}
	if right := show.Right(x); right != (want != "") {
		t.Errorf("Right(%.300s) = %v", fmt.Sprintf("%+v", x), right)
	}
	if want != "" {
		expectBack(t, want, []parse.Item{x})
	}
}

// hold holds Right and Item against the judge.
func hold(t *testing.T, x parse.Item) bool {
	t.Helper()
	want, err := wantItem(x)
	expectItem(t, x, want)
	return err == api.OK
}

// expectText asks for what Text answers, and, beside a text, that it leads back.
func expectText(t *testing.T, l []parse.Item, want string, wantErr api.Errno) {
	t.Helper()
	text, err := show.Text(l)
	if text != want || err != wantErr {
		t.Errorf("Text of %d items = %.80q of %d, %d; want %.80q of %d, %d", len(l), text, len(text), err, want, len(want), wantErr)
	}
	if err == api.OK {
		expectBack(t, text, l)
	}
}
