package lex_test

import (
	"math/big"
	"regexp"
	"slices"
	"strings"
	"testing"
	"unsafe"

	"touchstone/api"
	"touchstone/lex"
)

var (
	spaceForm = regexp.MustCompile(`^(?:[ \t\n\r]|%[^\n]*(?:\n|$))*`)
	tokenForm = regexp.MustCompile(`^(?:([A-Za-z_][A-Za-z0-9_]*)|(-?[0-9]+)|::|\.\.|[:{}\[\](),;=])`)
)

// split is Split for texts of few bytes, by regular expressions and exact numbers.
func split(s string) ([]lex.Token, int, api.Errno) {
	var l []lex.Token
	at := 0
	for {
		at += len(spaceForm.FindString(s[at:]))
		if at == len(s) {
			return l, 0, api.OK
		}
		found := tokenForm.FindStringSubmatch(s[at:])
		switch {
		case found == nil:
			return nil, at, api.ErrForm
		case found[1] != "":
			l = append(l, name(found[0], at))
		case found[2] != "":
			value, _ := new(big.Int).SetString(found[0], 10)
			if !value.IsInt64() {
				return nil, at, api.ErrOver
			}
			l = append(l, number(found[0], value.Int64(), at))
		default:
			l = append(l, sign(found[0], at))
		}
		at += len(found[0])
	}
}

// texts are all of at most five of a few bytes, and all of three words with some white space, or
// none, between them.
func texts() func(yield func(string) bool) {
	return func(yield func(string) bool) {
		const bytes = "a7-:.; \n%?"
		short := []string{""}
		for i := 0; i < len(short); i++ {
			if !yield(short[i]) {
				return
			}
			for j := 0; j < len(bytes) && len(short[i]) < 5; j++ {
				short = append(short, short[i]+bytes[j:j+1])
			}
		}
		words := []string{"", "var", "_b2", "0", "-0", "007", "-12", "9223372036854775807", "9223372036854775808", "-9223372036854775808", "-9223372036854775809", "::", "..", ":", ".", "{", "}", "[", "]", "(", ")", ",", ";", "=", "-", "?", "\u00e9", "\xff"}
		for _, a := range words {
			for _, b := range words {
				for _, c := range words {
					for _, space := range []string{"", " ", "\t\r\n", "% x ?\n"} {
						if !yield(a + space + b + space + c) {
							return
						}
					}
				}
			}
		}
	}
}

// P5.1, by regular expressions, for all of texts.
func TestSplitIsExact(t *testing.T) {
	tried := 0
	for s := range texts() {
		l, at, err := lex.Split(s)
		want, wantAt, wantErr := split(s)
		if !slices.Equal(l, want) || at != wantAt || err != wantErr {
			t.Fatalf("Split(%q) = %v, %d, %d; want %v, %d, %d", s, l, at, err, want, wantAt, wantErr)
		}
		tried++
	}
	if tried < 190000 {
		t.Errorf("only %d texts", tried)
	}
}

// P5.2: the texts of no token, of one and of several, whatever they are.
func TestJoin(t *testing.T) {
	for want, l := range map[string][]lex.Token{
		"":              nil,
		"x":             {name("x", 0)},
		"-7":            {number("-7", -7, 3)},
		"..":            {sign("..", 9)},
		"007":           {number("007", 7, 0)},
		"a b":           {name("a", 0), name("b", 1)},
		"b a":           {name("b", 7), name("a", 1)},
		"var 1 .. 5":    {name("var", 0), number("1", 1, 4), sign("..", 5), number("5", 5, 7)},
		": : ::":        {sign(":", 0), sign(":", 2), sign("::", 4)},
		"x x x":         {name("x", 0), name("x", 0), name("x", 0)},
		"what 5 is ? ;": {{Text: "what"}, {Kind: 9, Text: "5", Value: 7, At: -1}, {Kind: -1, Text: "is ?"}, {Text: ";"}},
		" ":             {{}, {}},
		"  ":            {{Text: " "}, {}},
		"\xff % \n":     {{Text: "\xff"}, {Text: "%"}, {Text: "\n"}},
	} {
		if s := lex.Join(l); s != want {
			t.Errorf("Join(%v) = %q; want %q", l, s, want)
		}
	}
	if s := lex.Join([]lex.Token{}); s != "" {
		t.Errorf("Join of no tokens = %q", s)
	}
	if s := lex.Join(make([]lex.Token, 5000)); s != strings.Repeat(" ", 4999) {
		t.Errorf("Join of 5000 empty tokens has %d bytes", len(s))
	}
}

// withoutPlaces are the tokens, all of them at 0.
func withoutPlaces(l []lex.Token) []lex.Token {
	l = slices.Clone(l)
	for i := range l {
		l[i].At = 0
	}
	return l
}

// expectBack asks Split for the tokens of which Join tells the text.
func expectBack(t *testing.T, s string, l []lex.Token) {
	t.Helper()
	back, at, err := lex.Split(lex.Join(l))
	if !slices.Equal(withoutPlaces(back), withoutPlaces(l)) || at != 0 || err != api.OK {
		t.Fatalf("%.40q joined and split again: %s, %d, %d; want %s", s, brief(back), at, err, brief(l))
	}
}

// P5.3, for all of texts.
func TestBack(t *testing.T) {
	tried := 0
	for s := range texts() {
		if l, _, err := lex.Split(s); err == api.OK {
			expectBack(t, s, l)
			tried++
		}
	}
	if tried < 40000 {
		t.Errorf("only %d texts", tried)
	}
}

// P5.3, for long texts: as long as the joined text is not longer than P5.1 has Split take.
func TestBackOfLongTexts(t *testing.T) {
	for _, s := range []string{strings.Repeat(";", 4096), strings.Repeat("a;", 2048), strings.Repeat("::-1", 1365), full("", "x"), full("-", "0"), strings.Repeat("-1", 2731)} {
		l, _, err := lex.Split(s)
		if err != api.OK {
			t.Fatalf("Split(%.20q of %d): %d", s, len(s), err)
		}
		expectBack(t, s, l)
	}
	for _, s := range []string{strings.Repeat("::", 4096), strings.Repeat("-1", 2732)} {
		l, _, _ := lex.Split(s)
		if joined := lex.Join(l); len(joined) != len(s)+len(l)-1 || len(joined) <= api.MaxText {
			t.Errorf("%d tokens joined are %d bytes", len(l), len(joined))
		}
		expectError(t, lex.Join(l), 0, api.ErrBig)
	}
}

// isSpace tells whether s is white space, byte by byte.
func isSpace(s string) bool {
	for s != "" {
		if s[0] == '%' {
			_, s, _ = strings.Cut(s, "\n")
			continue
		}
		if !strings.Contains(" \t\n\r", s[:1]) {
			return false
		}
		s = s[1:]
	}
	return true
}

// P5.4, for all of texts.
func TestPlaces(t *testing.T) {
	for s := range texts() {
		l, at, err := lex.Split(s)
		if err != api.OK {
			if at < 0 || at >= len(s) {
				t.Fatalf("Split(%q): the error %d at %d", s, err, at)
			}
			continue
		}
		end := 0
		for _, token := range l {
			if token.At < end || token.Text == "" || !strings.HasPrefix(s[token.At:], token.Text) || !isSpace(s[end:token.At]) {
				t.Fatalf("Split(%q): %v behind %d", s, token, end)
			}
			end = token.At + len(token.Text)
		}
		if !isSpace(s[end:]) {
			t.Fatalf("Split(%q): nothing behind %d", s, end)
		}
	}
}

// R3: Value is 0 but for numbers.
func TestValues(t *testing.T) {
	for s := range texts() {
		l, _, _ := lex.Split(s)
		for _, token := range l {
			if token.Kind < lex.Name || token.Kind > lex.Sign || token.Kind != lex.Number && token.Value != 0 {
				t.Fatalf("Split(%q): %v", s, token)
			}
		}
	}
}

// sharesMemory tells whether a part of some text lies in the memory of another.
func sharesMemory(part, whole string) bool {
	first, begin := uintptr(unsafe.Pointer(unsafe.StringData(part))), uintptr(unsafe.Pointer(unsafe.StringData(whole)))
	return first < begin+uintptr(len(whole)) && begin < first+uintptr(len(part))
}

// R6: tokens are new memory, and so is a joined text.
func TestNewMemory(t *testing.T) {
	const want = "var 1 .. 5 : long_name ;"
	s := strings.Clone(want)
	l, _, _ := lex.Split(s)
	for _, token := range l {
		if len(token.Text) > 0 && sharesMemory(token.Text, s) {
			t.Errorf("%v lies in the text", token)
		}
	}
	if one := l[5:6]; sharesMemory(lex.Join(one), one[0].Text) {
		t.Error("the joined text of a token lies in the token")
	}
	l[0], l[5].Text = lex.Token{}, "other"
	again, at, err := lex.Split(s)
	if lex.Join(again) != want || len(again) != 7 || at != 0 || err != api.OK || s != want {
		t.Errorf("Split(%q) = %v, %d, %d", s, again, at, err)
	}
	kept := slices.Clone(again)
	if lex.Join(again); !slices.Equal(again, kept) {
		t.Errorf("Join changed %v to %v", kept, again)
	}
}
