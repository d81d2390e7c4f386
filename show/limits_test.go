package show_test

import (
	"slices"
	"strings"
	"testing"

	"touchstone/api"
	"touchstone/parse"
	"touchstone/show"
)

// itemOfBytes is an item whose text has so many bytes.
func itemOfBytes(n int) parse.Item {
	return parse.Item{Kind: parse.Solve, Ask: api.Minimize, Name: strings.Repeat("n", n-len("solve minimize ;"))}
}

// itemOfTokens is an item whose text has so many tokens, at least six. Behind the first four each
// argument adds its own and one: an expression two, an empty list three, a list of n elements 2n+2.
func itemOfTokens(n int) parse.Item {
	x := parse.Item{Kind: parse.Constraint, Name: "c"}
	rest := n - 4
	if rest%2 == 1 {
		x.Vals = append(x.Vals, list())
		rest -= 3
	}
	for rest >= 4 {
		elements := min(64, rest/2-1)
		x.Vals = append(x.Vals, list(some(num(1), elements)...))
		rest -= 2*elements + 2
	}
	if rest == 2 {
		x.Vals = append(x.Vals, num(1))
	}
	return x
}

// textOf is the text that Text is to answer, if it is not too long.
func textOf(l ...parse.Item) string {
	var text strings.Builder
	for _, x := range l {
		text.WriteString(wantText(x) + "\n")
	}
	return text.String()
}

// expectSize asks whether items have a text of so many bytes and tokens.
func expectSize(t *testing.T, bytes, tokens int, l ...parse.Item) {
	t.Helper()
	text := textOf(l...)
	if n := len(tokenForm.FindAllString(text, -1)); len(text) != bytes && bytes >= 0 || n != tokens && tokens >= 0 {
		t.Fatalf("%d bytes, %d tokens", len(text), n)
	}
}

// P7.1: lists and constraints of as many expressions as there may be, and of one more.
func TestLongLists(t *testing.T) {
	for _, element := range []parse.Expr{num(1), num(-12), truth(0), ref("x")} {
		for _, n := range []int{63, 64, 65, 66, 1000} {
			l := some(element, n)
			for _, x := range []parse.Item{
				{Kind: parse.ParArray, Name: "a", Size: 64, Vals: l},
				{Kind: parse.ParArray, Name: "a", Size: int64(n), Bool: true, Vals: l},
				{Kind: parse.VarArray, Name: "a", Size: 65, Vals: l},
				{Kind: parse.VarArray, Name: "a", Size: int64(n), Bool: true, Out: true, Vals: l},
				{Kind: parse.Constraint, Name: "c", Vals: l},
				{Kind: parse.Constraint, Name: "c", Vals: exprs(list(l...))},
				{Kind: parse.Constraint, Name: "c", Vals: exprs(num(1), list(), list(l...), ref("x"))},
				{Kind: parse.Constraint, Name: "c", Vals: append(some(list(), 63), list(l...))},
			} {
				if hold(t, x) != (n <= 64) {
					t.Errorf("%d expressions in %+v", n, x.Kind)
				}
			}
		}
	}
	for _, n := range []int{63, 64, 65} {
		x := parse.Item{Kind: parse.Constraint, Name: "c", Vals: some(list(ref("x")), n)}
		if hold(t, x) != (n <= 64) {
			t.Errorf("%d lists", n)
		}
	}
}

// P7.1: sets of 256 numbers, and of 257.
func TestLongSets(t *testing.T) {
	for _, first := range []int64{0, -128, least, greatest - 300} {
		var numbers []int64
		for i := range int64(258) {
			numbers = append(numbers, first+i)
		}
		for _, n := range []int{2, 255, 256, 257, 258} {
			x := parse.Item{Kind: parse.Var, Name: "x", Dom: singles(numbers[:n]...)}
			if hold(t, x) != (n <= 256) {
				t.Errorf("%d numbers from %d on", n, first)
			}
			if !hold(t, parse.Item{Kind: parse.Var, Name: "x", Dom: ranges(first, first+int64(n))}) {
				t.Errorf("%d numbers from %d on, as one range", n, first)
			}
			x.Dom[n-1].Hi++
			expectItem(t, x, "")
		}
	}
}

// P7.2: no items, 512 and 513.
func TestManyItems(t *testing.T) {
	for _, x := range []parse.Item{{Kind: parse.Par, Name: "n", Vals: exprs(num(1))}, {Kind: parse.Solve}, {Kind: parse.Constraint, Name: "f"}} {
		for _, n := range []int{0, 1, 2, 511, 512} {
			l := slices.Repeat([]parse.Item{x}, n)
			expectText(t, l, textOf(l...), api.OK)
		}
		for _, n := range []int{513, 514, 2000} {
			expectText(t, slices.Repeat([]parse.Item{x}, n), "", api.ErrBig)
		}
	}
}

// P7.1: an item whose text is as long as can be parsed, and of one byte more.
func TestLongestItem(t *testing.T) {
	for _, n := range []int{17, 8000, 8191, 8192} {
		expectItem(t, itemOfBytes(n), wantText(itemOfBytes(n)))
	}
	for _, n := range []int{8193, 8194, 9000, 20000} {
		expectItem(t, itemOfBytes(n), "")
	}
	long := ref(strings.Repeat("r", 100))
	for _, n := range []int{7, 60, 64} {
		hold(t, parse.Item{Kind: parse.Constraint, Name: "c", Vals: some(list(long, long), n)})
		hold(t, parse.Item{Kind: parse.Constraint, Name: "c", Vals: some(list(some(num(least), 64)...), n)})
	}
}

// P7.1: an item whose text has as many tokens as can be parsed, and one more.
func TestItemOfMostTokens(t *testing.T) {
	for _, n := range []int{7, 8, 9, 10, 4095, 4096} {
		x := itemOfTokens(n)
		expectSize(t, -1, n, x)
		expectItem(t, x, wantText(x))
	}
	for _, n := range []int{4097, 4098, 5000} {
		x := itemOfTokens(n)
		expectSize(t, -1, n, x)
		expectItem(t, x, "")
		expectText(t, []parse.Item{x}, "", api.ErrArg)
	}
}

// P7.2: a text of 8192 bytes, its line feeds among them, and of one more.
func TestLongestText(t *testing.T) {
	short := parse.Item{Kind: parse.Solve}
	for _, n := range []int{8191, 8192, 8193, 8194} {
		for _, l := range [][]parse.Item{
			{itemOfBytes(n - 1)},
			{itemOfBytes(n/2 - 1), itemOfBytes(n - n/2 - 1)},
			{itemOfBytes(n - 16), short},
			{short, itemOfBytes(n - 16)},
			{short, itemOfBytes(n - 31), short},
		} {
			expectSize(t, n, -1, l...)
			switch {
			case n <= 8192:
				expectText(t, l, textOf(l...), api.OK)
			case len(l) == 1 && n == 8194:
				// The item itself is too long to be parsed, and so it is not valid.
				expectText(t, l, "", api.ErrArg)
			default:
				expectText(t, l, "", api.ErrBig)
			}
		}
	}
	expectText(t, slices.Repeat([]parse.Item{itemOfBytes(8192)}, 512), "", api.ErrBig)
}

// P7.2: a text of lex.MaxTokens tokens, and of one more.
func TestTextOfMostTokens(t *testing.T) {
	short := parse.Item{Kind: parse.Solve}
	for _, n := range []int{4095, 4096, 4097, 4098} {
		for _, l := range [][]parse.Item{
			{itemOfTokens(n / 2), itemOfTokens(n - n/2)},
			{itemOfTokens(n - 3), short},
			{short, itemOfTokens(n - 6), short},
		} {
			expectSize(t, -1, n, l...)
			if n <= 4096 {
				expectText(t, l, textOf(l...), api.OK)
			} else {
				expectText(t, l, "", api.ErrBig)
			}
		}
	}
}

// P7.2, R2: too many items are told before an item that is not valid, and this before a text that
// is too long.
func TestWhichError(t *testing.T) {
	right, wrong := parse.Item{Kind: parse.Solve}, parse.Item{Kind: parse.Solve, Ask: -1}
	expectText(t, make([]parse.Item, 512), "", api.ErrArg)
	expectText(t, make([]parse.Item, 513), "", api.ErrBig)
	for _, n := range []int{0, 1, 300, 511} {
		l := slices.Repeat([]parse.Item{right}, 511)
		expectText(t, slices.Insert(l, n, wrong), "", api.ErrArg)
		expectText(t, slices.Insert(l, n, wrong, right), "", api.ErrBig)
	}
	for _, big := range []parse.Item{itemOfBytes(8000), itemOfBytes(8192), itemOfTokens(4000)} {
		l := []parse.Item{big, big, big}
		expectText(t, l, "", api.ErrBig)
		for n := range 4 {
			expectText(t, slices.Insert(slices.Clone(l), n, wrong), "", api.ErrArg)
			expectText(t, slices.Insert(slices.Clone(l), n, itemOfBytes(8193)), "", api.ErrArg)
			expectText(t, slices.Insert(slices.Clone(l), n, itemOfTokens(4097)), "", api.ErrArg)
		}
		expectText(t, slices.Repeat(l, 171), "", api.ErrBig)
	}
}

// P7.1, R1: items that hold themselves, or far more than can be printed, are not valid; the calls
// end all the same.
func TestEndlessItems(t *testing.T) {
	one, two := make([]parse.Expr, 1), make([]parse.Expr, 2)
	one[0] = list(one...)
	two[0], two[1] = list(one...), list(two...)
	long := ref(strings.Repeat("long", 1<<20))
	many := some(long, 1<<16)
	for _, l := range [][]parse.Expr{one, two, exprs(list(two...)), exprs(num(1), list(one...)), many, some(list(many...), 1<<16), some(parse.Expr{}, 1<<20), some(list(), 1<<20)} {
		for kind := range 8 {
			for _, truth := range []bool{false, true} {
				x := parse.Item{Kind: kind, Name: "x", Bool: truth, Vals: l}
				if text, err := show.Item(x); text != "" || err != api.ErrArg || show.Right(x) {
					t.Errorf("Item of Kind %d = %.80q, %d", kind, text, err)
				}
				if text, err := show.Text([]parse.Item{x}); text != "" || err != api.ErrArg {
					t.Errorf("Text of Kind %d = %.80q, %d", kind, text, err)
				}
			}
		}
	}
	expectItem(t, parse.Item{Kind: parse.Var, Name: "x", Dom: make([]api.Range, 1<<20)}, "")
}
