package parse_test

import (
	"strconv"
	"strings"
	"testing"
	"unsafe"

	"touchstone/api"
	"touchstone/lex"
	"touchstone/parse"
)

// written is an item and its tokens, with a space between each two.
type written struct {
	text string
	item parse.Item
}

// value is an expression and its tokens.
type value struct {
	text string
	expr parse.Expr
}

func plainValues() []value {
	return []value{{"7", num(7)}, {"-12", num(-12)}, {"true", truth(true)}, {"false", truth(false)}, {"x", ref("x")}, {"_Y2", ref("_Y2")}}
}

// listOf is a list of some values.
func listOf(values ...value) value {
	var texts []string
	x := parse.Expr{Kind: parse.List}
	for _, v := range values {
		texts = append(texts, v.text)
		x.L = append(x.L, v.expr)
	}
	if len(texts) == 0 {
		return value{"[ ]", x}
	}
	return value{"[ " + strings.Join(texts, " , ") + " ]", x}
}

// listValues are the lists of none, of one and of each two of the plain expressions.
func listValues() []value {
	l := []value{listOf()}
	plain := plainValues()
	for i, a := range plain {
		l = append(l, listOf(a))
		for k := range i {
			l = append(l, listOf(a, plain[k], a))
		}
	}
	return l
}

func allVars() []written {
	var l []written
	doms := map[string][]api.Range{"bool": nil, "1 .. 3": ranges(1, 3), "3 .. -3": ranges(3, -3), "{ 4 }": ranges(4, 4), "{ 5 , -6 , 5 }": ranges(5, 5, -6, -6, 5, 5)}
	for text, dom := range doms {
		for _, out := range []string{"", " :: output_var"} {
			x := parse.Item{Kind: parse.Var, Name: "v", Bool: text == "bool", Dom: dom, Out: out != ""}
			begin := "var " + text + " : v" + out
			l = append(l, written{begin + " ;", x})
			for _, v := range plainValues() {
				x.Vals = exprs(v.expr)
				l = append(l, written{begin + " = " + v.text + " ;", x})
			}
		}
	}
	return l
}

func allArrays() []written {
	var l []written
	for _, size := range []int64{0, 1, 30, -2} {
		for _, kind := range []string{"int", "bool"} {
			for _, v := range listValues() {
				span := "[ 1 .. " + strconv.FormatInt(size, 10) + " ]"
				x := parse.Item{Kind: parse.ParArray, Name: "a", Bool: kind == "bool", Size: size, Vals: v.expr.L}
				l = append(l, written{"array " + span + " of " + kind + " : a = " + v.text + " ;", x})
				x.Kind = parse.VarArray
				l = append(l, written{"array " + span + " of var " + kind + " : a = " + v.text + " ;", x})
				x.Out = true
				l = append(l, written{"array " + span + " of var " + kind + " : a :: output_array ( " + span + " ) = " + v.text + " ;", x})
			}
		}
	}
	return l
}

func allConstraints() []written {
	l := []written{{"constraint c ( ) ;", parse.Item{Kind: parse.Constraint, Name: "c"}}}
	args := append(plainValues(), listValues()...)
	for i, a := range args {
		b := args[(i*5+3)%len(args)]
		l = append(l, written{"constraint c1 ( " + a.text + " ) ;", parse.Item{Kind: parse.Constraint, Name: "c1", Vals: exprs(a.expr)}})
		l = append(l, written{"constraint c2 ( " + a.text + " , " + b.text + " ) ;", parse.Item{Kind: parse.Constraint, Name: "c2", Vals: exprs(a.expr, b.expr)}})
		l = append(l, written{"constraint c3 ( " + b.text + " , " + a.text + " , " + b.text + " ) ;", parse.Item{Kind: parse.Constraint, Name: "c3", Vals: exprs(b.expr, a.expr, b.expr)}})
	}
	return l
}

func allOthers() []written {
	return []written{
		{"int : n = 3 ;", parse.Item{Kind: parse.Par, Name: "n", Vals: exprs(num(3))}},
		{"int : n = -3 ;", parse.Item{Kind: parse.Par, Name: "n", Vals: exprs(num(-3))}},
		{"bool : b = true ;", parse.Item{Kind: parse.Par, Name: "b", Bool: true, Vals: exprs(truth(true))}},
		{"bool : b = false ;", parse.Item{Kind: parse.Par, Name: "b", Bool: true, Vals: exprs(truth(false))}},
		{"solve satisfy ;", parse.Item{Kind: parse.Solve}},
		{"solve minimize v ;", parse.Item{Kind: parse.Solve, Ask: api.Minimize, Name: "v"}},
		{"solve maximize v ;", parse.Item{Kind: parse.Solve, Ask: api.Maximize, Name: "v"}},
	}
}

func allItems() []written {
	l := append(allOthers(), allVars()...)
	l = append(l, allArrays()...)
	return append(l, allConstraints()...)
}

// closeUp returns the text without the spaces that are not needed.
func closeUp(text string) string {
	words := strings.Fields(text)
	var s strings.Builder
	for i, word := range words {
		if i > 0 && isPart(words[i-1][len(words[i-1])-1]) && isPart(word[0]) {
			s.WriteByte(' ')
		}
		s.WriteString(word)
	}
	return s.String()
}

// isPart tells whether b is part of a name or of a number.
func isPart(b byte) bool {
	return isWord(string(b)) || b >= '0' && b <= '9' || b == '-'
}

// P6.1: all of allItems, with their fields, whatever white space stands between their words.
func TestAllItems(t *testing.T) {
	for _, w := range allItems() {
		expectItems(t, w.text, w.item)
		expectItems(t, closeUp(w.text), w.item)
		for _, space := range []string{"\t", "\r\n", "  \n ", "%\n", " % a ; b\n", "%%?\n%\n"} {
			expectItems(t, space+strings.ReplaceAll(w.text, " ", space)+space, w.item)
		}
	}
}

// P6.3: two texts of some items each, one behind the other.
func TestTextBehindText(t *testing.T) {
	all := allItems()
	texts := []string{"", " ", "% none", "%\n"}
	for i := 0; i < len(all); i += 7 {
		texts = append(texts, all[i].text, closeUp(all[i].text)+"% end", " \n"+all[i].text+"\n"+all[(i*3+1)%len(all)].text+" ")
	}
	for _, a := range texts {
		first, _, _ := parse.Text(a)
		for _, b := range texts {
			second, _, _ := parse.Text(b)
			expectItems(t, a+"\n"+b, append(first[:len(first):len(first)], second...)...)
		}
	}
}

// P6.3: three hundred items, told one by one and all together.
func TestManyTexts(t *testing.T) {
	var want []parse.Item
	text := ""
	for i := 0; len(want) < 300; i++ {
		for _, w := range append(allOthers(), allConstraints()[:3]...) {
			l, at, err := parse.Text(w.text)
			if at != 0 || err != api.OK {
				t.Fatalf("%q: %d, %d", w.text, at, err)
			}
			want = append(want, l...)
			text += closeUp(w.text) + "\n"
		}
	}
	expectItems(t, text, want...)
}

// P6.2, R1, R3: texts of any bytes and of any tokens, by a short rule.
func TestAnyTexts(t *testing.T) {
	words := append(allTokens(), "x", ";", "?", "%", "\n", "9223372036854775808", "\xff", ".", "-", "[1..2]", "constraint c(", "var 1..3: x", "= 1;", "\x00", "\u00e9")
	seed := uint32(1)
	for range 20000 {
		s := ""
		for range seed>>28 + 1 {
			seed = seed*1664525 + 1013904223
			s += words[int(seed>>8)%len(words)] + " "[:seed>>7&1]
		}
		l, at, err := parse.Text(s)
		if at < 0 || at > len(s) || err == api.OK && at != 0 || err != api.OK && len(l) != 0 {
			t.Errorf("Text(%q) = %s, %d, %d", s, brief(l), at, err)
		}
		if _, splitAt, splitErr := lex.Split(s); splitErr != api.OK && (at != splitAt || err != splitErr) {
			t.Errorf("Text(%q): %d, %d; want %d, %d", s, at, err, splitAt, splitErr)
		}
	}
}

// together is a text of all kinds of items, short enough to be parsed at once.
func together() string {
	return `int: n = 3; bool: b = true; var {1, 3}: x :: output_var = n; var 1..3: y = 2; var bool: c = b;
array [1..2] of int: a = [1, n]; array [1..2] of bool: d = [b, true]; array [1..3] of var int: e :: output_array([1..3]) = [x, y, 4];
constraint f(x, [1, y], [true], [], a, [x, x]); constraint g([n], [2, 3]); solve minimize x;`
}

// spoilExprs writes over all that expressions hold, and over the room behind it.
func spoilExprs(l []parse.Expr) {
	for i := range l {
		spoilExprs(l[i].L)
	}
	whole := l[:cap(l)]
	for i := range whole {
		whole[i] = parse.Expr{Kind: -1, N: -1, S: "spoilt"}
	}
}

func spoilItem(x *parse.Item) {
	spoilExprs(x.Vals)
	dom := x.Dom[:cap(x.Dom)]
	for i := range dom {
		dom[i] = api.Range{Lo: -1, Hi: -2}
	}
	*x = parse.Item{Kind: -1}
}

// R4, R6: two calls answer the same, and what is done to one answer changes nothing in another.
func TestAnswersAreNew(t *testing.T) {
	first, _, _ := parse.Text(together())
	second, _, _ := parse.Text(together())
	third, at, err := parse.Text(together())
	if len(first) != 11 || !equal(first, second) || at != 0 || err != api.OK {
		t.Fatalf("%s, %d, %d", brief(first), at, err)
	}
	for i := range second {
		spoilItem(&second[i])
	}
	if !equal(first, third) {
		t.Errorf("%s became %s", brief(first), brief(third))
	}
	if fourth, _, _ := parse.Text(together()); !equal(first, fourth) {
		t.Errorf("%s became %s", brief(first), brief(fourth))
	}
}

// R6: no two lists of one answer share memory, not even the room behind them.
func TestListsShareNothing(t *testing.T) {
	want, _, _ := parse.Text(together())
	for i := range want {
		l, _, _ := parse.Text(together())
		spoilItem(&l[i])
		l[i] = want[i]
		if !equal(l, want) {
			t.Errorf("item %d shares memory: %s", i, brief(l))
		}
		for k := range want[i].Vals {
			l, _, _ = parse.Text(together())
			spoilExprs(l[i].Vals[k].L)
			l[i].Vals[k] = want[i].Vals[k]
			if !equal(l, want) {
				t.Errorf("expression %d of item %d shares memory: %s", k, i, brief(l))
			}
		}
	}
}

// within tells whether part lies in the memory of whole.
func within(part, whole string) bool {
	first, begin := uintptr(unsafe.Pointer(unsafe.StringData(part))), uintptr(unsafe.Pointer(unsafe.StringData(whole)))
	return part != "" && first >= begin && first < begin+uintptr(len(whole))
}

func keeps(l []parse.Expr, s string) bool {
	for _, x := range l {
		if within(x.S, s) || keeps(x.L, s) {
			return true
		}
	}
	return false
}

// R6: no name of an answer is a piece of the text.
func TestNamesAreNew(t *testing.T) {
	s := strings.Clone(together())
	l, _, _ := parse.Text(s)
	for _, x := range l {
		if within(x.Name, s) || keeps(x.Vals, s) {
			t.Errorf("%+v holds a piece of the text", x)
		}
	}
}
