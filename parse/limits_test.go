package parse_test

import (
	"strings"
	"testing"

	"touchstone/api"
	"touchstone/parse"
)

// frame is a place of elements: what stands before and behind them, the most that there may be, the
// elements that it takes, and tokens that it does not take.
type frame struct {
	before, behind string
	most           int
	takes, not     []string
}

// frames are all places of elements.
func frames() []frame {
	plain := []string{"1", "-7", "x", "true", "false"}
	noPlain := []string{"]", ",", ";", "[", "var", "::", "(", ")", "int"}
	noExpr := []string{"]", ",", ";", "var", "::", "(", ")", "int"}
	l := []frame{
		{"constraint c(", ");", api.MaxTable, append(plain, "[]", "[1]", "[x, y]"), noExpr},
		{"var {", "}: x;", api.MaxRanges, []string{"1", "-7", "007"}, []string{"}", ",", "x", "true", "..", ";", "{"}},
	}
	for _, list := range [][2]string{
		{"array [1..64] of int: a = [", "];"},
		{"array [1..64] of bool: a = [", "];"},
		{"array [1..64] of var int: a = [", "];"},
		{"array [1..64] of var bool: a :: output_array([1..64]) = [", "];"},
		{"constraint c([", "]);"},
		{"constraint c(x, [1, 2], [", "], y);"},
	} {
		l = append(l, frame{list[0], list[1], api.MaxTable, plain, noPlain})
	}
	return l
}

// some returns so many elements with commas between them.
func some(element string, n int) string {
	return strings.Repeat(element+", ", n-1) + element
}

// P6.1: as many elements as there may be, and one less.
func TestAsManyAsMayBe(t *testing.T) {
	for _, f := range frames() {
		for _, element := range f.takes {
			for _, n := range []int{1, 2, f.most - 1, f.most} {
				s := f.before + some(element, n) + f.behind
				if l, at, err := parse.Text(s); len(l) != 1 || at != 0 || err != api.OK {
					t.Errorf("Text(%.60q) with %d of %q: %s, %d, %d", s, n, element, brief(l), at, err)
				}
			}
		}
	}
}

// P6.1: one element too many is told at its offset, whatever follows it.
func TestOneTooMany(t *testing.T) {
	for _, f := range frames() {
		for _, element := range f.takes {
			s := f.before + some(element, f.most) + ","
			for _, behind := range []string{f.behind, "", ", 1" + f.behind, ";", " solve", "," + some(element, 20) + f.behind} {
				expectError(t, s+element+behind, len(s), api.ErrBig)
				expectError(t, s+" % one more\n "+element+behind, len(s)+13, api.ErrBig)
			}
		}
	}
}

// P6.1: behind as many elements as there may be, and a comma, it does not matter which token
// follows, nor whether one does.
func TestWrongTokenTooMany(t *testing.T) {
	for _, f := range frames() {
		s := f.before + some("1", f.most) + ","
		for _, token := range f.not {
			expectError(t, s+token, len(s), api.ErrBig)
			expectError(t, s+" "+token+" "+f.behind, len(s)+1, api.ErrBig)
			expectError(t, s+"\n%\n"+token+f.behind, len(s)+3, api.ErrBig)
		}
		for _, space := range []string{"", " ", "\n\t", "% ;", " %\n "} {
			expectError(t, s+space, len(s)+len(space), api.ErrBig)
		}
	}
}

// P6.1: an element less, and the token behind the comma counts again.
func TestWrongTokenInTime(t *testing.T) {
	for _, f := range frames() {
		s := f.before + some("1", f.most-1) + ", "
		for _, token := range f.not {
			expectError(t, s+token+f.behind, len(s), api.ErrForm)
		}
		expectError(t, s, len(s), api.ErrEnd)
		s += "1 "
		for _, token := range []string{"1", "x", ":", "[", "{", "(", "solve"} {
			expectError(t, s+token+f.behind, len(s), api.ErrForm)
			expectError(t, s+token+", 1", len(s), api.ErrForm)
		}
		expectError(t, s, len(s), api.ErrEnd)
	}
}

// P6.1: a wrong token before the element too many is told instead of it.
func TestWrongTokenBeforeTooMany(t *testing.T) {
	for _, f := range frames() {
		many := some("1", f.most+1) + f.behind
		expectError(t, f.before+", "+many, len(f.before), api.ErrForm)
		expectError(t, f.before+"1 "+many, len(f.before)+2, api.ErrForm)
		expectError(t, f.before+"1, var, "+many, len(f.before)+3, api.ErrForm)
		expectError(t, "x "+f.before+many, 0, api.ErrForm)
		s := f.before + some("1", f.most-1) + ", "
		expectError(t, s+"of, 1, 1"+f.behind, len(s), api.ErrForm)
	}
}

// P6.1: each list counts alone: neither its elements count for the Constraint, nor those of one list
// for another.
func TestListsCountAlone(t *testing.T) {
	full := "[" + strings.ReplaceAll(some("1", 64), " ", "") + "]"
	lists := strings.ReplaceAll(some(full, 30), " ", "")
	l, at, err := parse.Text("constraint c(" + lists + ");")
	if len(l) != 1 || at != 0 || err != api.OK || len(l[0].Vals) != 30 {
		t.Fatalf("30 lists of 64: %s, %d, %d", brief(l), at, err)
	}
	for _, x := range l[0].Vals {
		if x.Kind != parse.List || len(x.L) != 64 {
			t.Errorf("%d elements of %d", len(x.L), x.Kind)
		}
	}
	s := "constraint c(" + full + "," + some("x", 63)
	expectError(t, s+", ["+some("1", 65)+"]);", len(s)+2, api.ErrBig)
	expectError(t, s+",[1);", len(s)+1, api.ErrBig)
	s = "constraint c(" + full + "," + full[:len(full)-1] + ","
	expectError(t, s+"1]);", len(s), api.ErrBig)
	sets := strings.Repeat("var {"+some("7", 256)+"}: x;", 4)
	if l, at, err := parse.Text(sets); len(l) != 4 || at != 0 || err != api.OK {
		t.Errorf("4 sets of 256: %s, %d, %d", brief(l), at, err)
	}
}

// P6.1: the elements of the longest lists, all of them in order.
func TestLongestLists(t *testing.T) {
	var numbers, elements []string
	var dom []api.Range
	var vals []parse.Expr
	for n := range int64(256) {
		numbers = append(numbers, string([]byte{'-', '1', byte('0' + n/100), byte('0' + n/10%10), byte('0' + n%10)}))
		dom = append(dom, api.Range{Lo: -1000 - n, Hi: -1000 - n})
	}
	for n := range int64(64) {
		elements = append(elements, numbers[n])
		vals = append(vals, num(-1000-n))
	}
	list := strings.Join(elements, ",")
	expectItems(t, "var {"+strings.Join(numbers, ",")+"}: x;", parse.Item{Kind: parse.Var, Name: "x", Dom: dom})
	expectItems(t, "array [1..64] of int: a = ["+list+"];", parse.Item{Kind: parse.ParArray, Name: "a", Size: 64, Vals: vals})
	expectItems(t, "array [1..64] of var int: a = ["+list+"];", parse.Item{Kind: parse.VarArray, Name: "a", Size: 64, Vals: vals})
	expectItems(t, "constraint c("+list+");", parse.Item{Kind: parse.Constraint, Name: "c", Vals: vals})
	expectItems(t, "constraint c(["+list+"]);", parse.Item{Kind: parse.Constraint, Name: "c", Vals: []parse.Expr{{Kind: parse.List, L: vals}}})
}

// shortItems are items so short that a text takes more than 512 of them.
func shortItems() []string {
	return []string{"int:a=1;", "bool:a=true;", "var bool:x;", "var 1..2:x;", "constraint f();", "solve satisfy;"}
}

// P6.1: texts of 512 items.
func TestManyItems(t *testing.T) {
	for _, item := range shortItems() {
		one, _, _ := parse.Text(item)
		for _, n := range []int{511, 512} {
			for _, behind := range []string{"", " ", "\n% solve satisfy;", "%\n"} {
				l, at, err := parse.Text(strings.Repeat(item, n) + behind)
				if len(l) != n || at != 0 || err != api.OK {
					t.Fatalf("%d of %q: %s, %d, %d", n, item, brief(l), at, err)
				}
				for _, x := range l {
					if !equal([]parse.Item{x}, one) {
						t.Fatalf("%d of %q: %+v", n, item, x)
					}
				}
			}
		}
	}
}

// P6.1: one item too many is told where it begins, whatever follows.
func TestTooManyItems(t *testing.T) {
	last := append(shortItems(), "var {1}:x;", "array[1..0]of int:a=[];", "array[1..1]of var bool:a=[x];", "int", "bool", "var", "array", "constraint", "solve", "int x", "var var", "array [2", "solve solve")
	for _, item := range shortItems() {
		s := strings.Repeat(item, 512)
		for _, more := range last {
			expectError(t, s+more, len(s), api.ErrBig)
			expectError(t, s+" %\n"+more, len(s)+3, api.ErrBig)
			expectError(t, s+more+" "+item, len(s), api.ErrBig)
			expectError(t, s[len(item):]+" "+item+more, len(s)+1, api.ErrBig)
		}
	}
}

// P6.1, R2: a token that begins no item is wrong wherever it stands, behind 512 items too; ErrForm
// is named before ErrBig.
func TestNoItemBehindManyItems(t *testing.T) {
	s := strings.Repeat("int:a=1;", 512)
	for _, token := range []string{";", "x", "1", "of", "true", "satisfy", "[", "::"} {
		expectError(t, s+token, len(s), api.ErrForm)
		expectError(t, s+" "+token+" = 1;", len(s)+1, api.ErrForm)
	}
}

// P6.1: an error before the item too many is told instead of it.
func TestErrorBeforeTooManyItems(t *testing.T) {
	many := strings.Repeat("int:a=1;", 300)
	for wrong, at := range map[string]int{"int:a=true;": 6, "int:var=1;": 4, ";": 0, "x": 0, "array[2..2]of int:a=[];": 6, "solve satisfy ": 14} {
		expectError(t, many+wrong+many, len(many)+at, api.ErrForm)
	}
	s := strings.Repeat("int:a=1;", 511)
	expectError(t, s+"int:a=;int:a=1;", len(s)+6, api.ErrForm)
	expectError(t, s+"int:a=1", len(s)+7, api.ErrEnd)
	expectError(t, s+"int:a=1 int:a=1;", len(s)+8, api.ErrForm)
}

// P6.1: the errors of splitting, with their offsets.
func TestSplitErrors(t *testing.T) {
	const over = "9223372036854775808"
	expectError(t, "?", 0, api.ErrForm)
	expectError(t, "int: a = 1; ?", 12, api.ErrForm)
	expectError(t, "int: a = 1.5;", 10, api.ErrForm)
	expectError(t, "int: a = - 1;", 9, api.ErrForm)
	expectError(t, "int: a = "+over+";", 9, api.ErrOver)
	expectError(t, "var -9223372036854775809..1: x;", 4, api.ErrOver)
	expectError(t, "constraint c(\"x\");", 13, api.ErrForm)
	expectError(t, "int: \u00e9 = 1;", 5, api.ErrForm)
	expectError(t, "int: a\x00 = 1;", 6, api.ErrForm)
	expectError(t, strings.Repeat(" ", 8193), 0, api.ErrBig)
	expectError(t, strings.Repeat("int:a=1;", 1024)+" ", 0, api.ErrBig)
	expectItems(t, strings.Repeat(" ", 8192))
	expectError(t, strings.Repeat("int:a=1;", 1024), 682*8+len("int:a="), api.ErrBig)
	expectError(t, strings.Repeat(";", 4097), 4096, api.ErrBig)
	expectError(t, strings.Repeat(";", 4096), 0, api.ErrForm)
}

// P6.1: an error of splitting is told before all others, wherever it stands.
func TestSplitErrorsFirst(t *testing.T) {
	const over = "9223372036854775808"
	expectError(t, "foo ?", 4, api.ErrForm)
	expectError(t, "foo "+over, 4, api.ErrOver)
	expectError(t, "; ; ; .", 6, api.ErrForm)
	expectError(t, "int: var = 1; "+over+" ?", 14, api.ErrOver)
	expectError(t, "solve satisfy -", 14, api.ErrForm)
	expectError(t, "foo"+strings.Repeat(" ", 8190), 0, api.ErrBig)
	expectError(t, "foo"+strings.Repeat(";", 4096), 3+4095, api.ErrBig)
	s := "constraint c(" + some("1", 65) + ");"
	expectError(t, s+"?", len(s), api.ErrForm)
	expectError(t, s+over, len(s), api.ErrOver)
	s = strings.Repeat("int:a=1;", 513)
	expectError(t, s+"\n.", len(s)+1, api.ErrForm)
	expectError(t, s+"x="+over, len(s)+2, api.ErrOver)
}

// P6.1: of two errors the first one, from the beginning of the text, is told.
func TestFirstError(t *testing.T) {
	expectError(t, "array [2", 7, api.ErrForm)
	expectError(t, "array [2..3", 7, api.ErrForm)
	expectError(t, "array [2..x] of foo", 7, api.ErrForm)
	expectError(t, "array [1..2] of var int: a :: output_array([2..3", 44, api.ErrForm)
	expectError(t, "array [1..2] of var int: a :: output_array([1..3", 47, api.ErrForm)
	expectError(t, "array [1..2] of var int: a :: output_array([1..3 = ;", 47, api.ErrForm)
	expectError(t, "int: a = 1; int: = 2; bool: b", 17, api.ErrForm)
	expectError(t, "solve satisfy; solve; foo", 20, api.ErrForm)
	expectError(t, "solve; solve", 5, api.ErrForm)
	expectError(t, "constraint c("+some("1", 65), 13+192, api.ErrBig)
	s := "constraint c(" + some("1", 64) + ", "
	expectError(t, s+"1); foo", len(s), api.ErrBig)
	expectError(t, "foo "+s+"1);", 0, api.ErrForm)
	expectError(t, "solve "+s+"1);", 6, api.ErrForm)
}

// P6.1, P6.3: two texts that have too many items, tokens or bytes together.
func TestTextsTooLongTogether(t *testing.T) {
	half := strings.Repeat("int:a=1;", 300)
	expectError(t, half+"\n"+half, 512*8+1, api.ErrBig)
	half = strings.Repeat("var{1,2}:x;", 250) + "\n"
	expectError(t, half+half, 455*11+1+3, api.ErrBig)
	half = strings.Repeat("int: a = 1; % an item\n", 200)
	expectError(t, half+"\n"+half, 0, api.ErrBig)
}
