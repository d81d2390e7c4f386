package show_test

import (
	"reflect"
	"slices"
	"strings"
	"testing"

	"touchstone/api"
	"touchstone/lex"
	"touchstone/parse"
	"touchstone/show"
)

// layouts are a text with all of its white space in several ways.
func layouts(text string) []string {
	tokens, _, _ := lex.Split(text)
	var tight strings.Builder
	name := false
	for _, token := range tokens {
		// Two names, or a name and a number, would be one without a space.
		word := token.Kind != lex.Sign
		if name && word {
			tight.WriteByte(' ')
		}
		tight.WriteString(token.Text)
		name = word
	}
	joined := lex.Join(tokens)
	return []string{text, tight.String(), joined, strings.ReplaceAll(joined, " ", "\n"), "% ;\n" + strings.ReplaceAll(joined, " ", " \t% 1; solve\r\n"), joined + " % the end"}
}

// numbersAnew writes numbers of a text in other ways.
func numbersAnew(text string) string {
	return strings.NewReplacer("1..", "001..", "-2", "-02", " 0", " -0", "{1,", "{ 01 ,", "3;", "0003;").Replace(text)
}

// expectOnce asks for P7.4: a text parsed and printed, once and twice, is the same.
func expectOnce(t *testing.T, text string) string {
	t.Helper()
	l, _, err := parse.Text(text)
	first, firstErr := show.Text(l)
	if err != api.OK || firstErr != api.OK {
		t.Fatalf("%.80q of %d: %d, %d", text, len(text), err, firstErr)
	}
	again, _, err := parse.Text(first)
	second, secondErr := show.Text(again)
	if second != first || err != api.OK || secondErr != api.OK {
		t.Errorf("%q is printed as %q and then as %q, %d, %d", text, first, second, err, secondErr)
	}
	return first
}

// P7.4: texts in many forms, alone and all together.
func TestPrintedOnce(t *testing.T) {
	var whole strings.Builder
	for _, s := range samples() {
		whole.WriteString(s.text + "\n")
		for _, text := range append(layouts(s.text), layouts(numbersAnew(s.text))...) {
			if first := expectOnce(t, text); first != s.text+"\n" {
				t.Errorf("%q is printed as %q", text, first)
			}
		}
	}
	for _, text := range layouts(whole.String()) {
		if first := expectOnce(t, text); first != whole.String() {
			t.Errorf("%q is printed as %q", text, first)
		}
	}
	for _, text := range []string{"", " ", "%", "\n% solve satisfy;\n"} {
		if first := expectOnce(t, text); first != "" {
			t.Errorf("%q is printed as %q", text, first)
		}
	}
	// A set of one number is a range when it is printed.
	if first := expectOnce(t, "var{7}:x;var{-07}:y=x;"); first != "var 7..7: x;\nvar -7..-7: y = x;\n" {
		t.Errorf("sets of one number are printed as %q", first)
	}
}

// P7.3: the text of each two items, and of some longer rows, is parsed to these items.
func TestBack(t *testing.T) {
	all := samples()
	for i, a := range all {
		row := []parse.Item{a.item}
		for k, b := range all {
			l := []parse.Item{a.item, b.item}
			expectText(t, l, a.text+"\n"+b.text+"\n", api.OK)
			row = append(row, all[(i*k+7*k)%len(all)].item)
		}
		expectText(t, row, textOf(row...), api.OK)
	}
}

// clone is an item that shares no memory with x.
func clone(x parse.Item) parse.Item {
	x.Dom = slices.Clone(x.Dom)
	x.Vals = slices.Clone(x.Vals)
	for i := range x.Vals {
		x.Vals[i].L = slices.Clone(x.Vals[i].L)
	}
	return x
}

// R4, R6: the calls leave the items as they are, and answer the same when they are asked again.
func TestArgumentsStay(t *testing.T) {
	var l, before []parse.Item
	for _, s := range samples() {
		l = append(l, clone(s.item), clone(s.item))
		before = append(before, clone(s.item), clone(s.item))
	}
	first, firstErr := show.Text(l)
	for i, x := range l {
		text, err := show.Item(x)
		if text != wantText(x) || err != api.OK || !show.Right(x) || !reflect.DeepEqual(x, before[i]) {
			t.Errorf("Item(%+v) = %q, %d; it was %+v", x, text, err, before[i])
		}
	}
	second, secondErr := show.Text(l)
	if first != second || first != textOf(l...) || firstErr != api.OK || secondErr != api.OK {
		t.Errorf("Text = %q, %d, and then %q, %d", first, firstErr, second, secondErr)
	}
	if !reflect.DeepEqual(l, before) {
		t.Errorf("%+v became %+v", before, l)
	}
	for i := range l {
		l[i].Name = "spoilt"
		l[i].Vals = nil
	}
	if second != textOf(before...) {
		t.Errorf("a text became %q", second)
	}
}
