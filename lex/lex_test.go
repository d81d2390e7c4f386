package lex_test

import (
	"fmt"
	"slices"
	"strconv"
	"strings"
	"testing"

	"touchstone/api"
	"touchstone/lex"
)

func name(text string, at int) lex.Token {
	return lex.Token{Kind: lex.Name, Text: text, At: at}
}

func number(text string, value int64, at int) lex.Token {
	return lex.Token{Kind: lex.Number, Text: text, Value: value, At: at}
}

func sign(text string, at int) lex.Token {
	return lex.Token{Kind: lex.Sign, Text: text, At: at}
}

// brief is what a failed test tells of tokens.
func brief(l []lex.Token) string {
	return fmt.Sprintf("%d tokens %.200q", len(l), fmt.Sprintf("%+v", l))
}

func expectTokens(t *testing.T, s string, want ...lex.Token) {
	t.Helper()
	if l, at, err := lex.Split(s); !slices.Equal(l, want) || at != 0 || err != api.OK {
		t.Errorf("Split(%.40q of %d) = %s, %d, %d; want %s", s, len(s), brief(l), at, err, brief(want))
	}
}

func expectError(t *testing.T, s string, wantAt int, want api.Errno) {
	t.Helper()
	if l, at, err := lex.Split(s); len(l) != 0 || at != wantAt || err != want {
		t.Errorf("Split(%.40q of %d) = %s, %d, %d; want the error %d at %d", s, len(s), brief(l), at, err, want, wantAt)
	}
}

// P5.1: the numbers that the chapter gives.
func TestConstants(t *testing.T) {
	if lex.Name != 1 || lex.Number != 2 || lex.Sign != 3 || lex.MaxTokens != 4096 {
		t.Errorf("%d, %d, %d, %d", lex.Name, lex.Number, lex.Sign, lex.MaxTokens)
	}
}

// The chapter's examples.
func TestExamples(t *testing.T) {
	expectTokens(t, "var 1..5: x; % a", name("var", 0), number("1", 1, 4), sign("..", 5), number("5", 5, 7), sign(":", 8), name("x", 10), sign(";", 11))
	expectError(t, "x - 1", 2, api.ErrForm)
	expectError(t, "9223372036854775808", 0, api.ErrOver)
	expectTokens(t, "a::b", name("a", 0), sign("::", 1), name("b", 3))
}

// P5.1: texts of all kinds of tokens.
func TestWholeItems(t *testing.T) {
	expectTokens(t, "array [1..2] of var int: a_1 :: output_array([1..2]) = [x,-3];",
		name("array", 0), sign("[", 6), number("1", 1, 7), sign("..", 8), number("2", 2, 10), sign("]", 11), name("of", 13), name("var", 16), name("int", 20), sign(":", 23), name("a_1", 25),
		sign("::", 29), name("output_array", 32), sign("(", 44), sign("[", 45), number("1", 1, 46), sign("..", 47), number("2", 2, 49), sign("]", 50), sign(")", 51), sign("=", 53),
		sign("[", 55), name("x", 56), sign(",", 57), number("-3", -3, 58), sign("]", 60), sign(";", 61))
	expectTokens(t, "var{1,3}:x;\r\nsolve satisfy;\r\n",
		name("var", 0), sign("{", 3), number("1", 1, 4), sign(",", 5), number("3", 3, 6), sign("}", 7), sign(":", 8), name("x", 9), sign(";", 10), name("solve", 13), name("satisfy", 19), sign(";", 26))
}

// P5.1: texts without a token: the empty one, white space, and comments that go up to the end or
// end at a line feed.
func TestNoTokens(t *testing.T) {
	for _, s := range []string{
		"", " ", "\t", "\n", "\r", " \t\n\r \r\n\t", "%", "%%", "% only", "%\n", "% a\n", "% a\r\n % b", "%a\n%b\n\n%c", "  % x ? \"y\" 99999999999999999999", "% \xff\x80\x00\n", "%\r? not yet ended", "% \u00e9 \u2200\n\t",
	} {
		expectTokens(t, s)
	}
}

// P5.1: every kind of white space parts tokens, and none is needed where a token can't go on.
func TestSpaceBetween(t *testing.T) {
	for _, space := range []string{" ", "\t", "\n", "\r", "  ", " \r\n\t", "%\n", "% b ; 1 %\n", " % b\n\t", "%a\n%b\n", "\n%\n\n", "% \r \xff\n"} {
		expectTokens(t, "a"+space+"b", name("a", 0), name("b", 1+len(space)))
		expectTokens(t, "1"+space+"2", number("1", 1, 0), number("2", 2, 1+len(space)))
		expectTokens(t, ":"+space+":", sign(":", 0), sign(":", 1+len(space)))
		expectTokens(t, space+"a"+space, name("a", len(space)))
		expectError(t, "."+space+".", 0, api.ErrForm)
		expectError(t, "-"+space+"1", 0, api.ErrForm)
		expectError(t, "a"+space+"?", 1+len(space), api.ErrForm)
	}
}

// P5.1: a comment directly behind a token, and a token directly behind a comment's line feed.
func TestCommentBesideToken(t *testing.T) {
	expectTokens(t, "a%b", name("a", 0))
	expectTokens(t, "a%b\nc", name("a", 0), name("c", 4))
	expectTokens(t, "1%2\n3%", number("1", 1, 0), number("3", 3, 4))
	expectTokens(t, ":%:\n:", sign(":", 0), sign(":", 4))
	expectTokens(t, "..%.\n..", sign("..", 0), sign("..", 5))
	expectTokens(t, "%\nx", name("x", 2))
	expectTokens(t, "%x\r\ny", name("y", 4))
	expectTokens(t, "%x\ry\nz", name("z", 5))
	expectError(t, "a.%.\n", 1, api.ErrForm)
	expectError(t, "-%\n1", 0, api.ErrForm)
}

// P5.1: each of the signs, alone, beside itself and beside other tokens.
func TestSigns(t *testing.T) {
	all := []string{"::", "..", ":", "{", "}", "[", "]", "(", ")", ",", ";", "="}
	for _, s := range all {
		expectTokens(t, s, sign(s, 0))
		expectTokens(t, s+" "+s, sign(s, 0), sign(s, len(s)+1))
		expectTokens(t, "a"+s+"7", name("a", 0), sign(s, 1), number("7", 7, 1+len(s)))
		expectTokens(t, "7"+s+"a", number("7", 7, 0), sign(s, 1), name("a", 1+len(s)))
		expectTokens(t, s+"-7", sign(s, 0), number("-7", -7, len(s)))
		for _, other := range all {
			if s != ":" || other[0] != ':' {
				expectTokens(t, s+other, sign(s, 0), sign(other, len(s)))
			}
		}
	}
}

// P5.1: two colons are one sign, and one is another; two dots are a sign, and one begins none.
func TestColonsAndDots(t *testing.T) {
	expectTokens(t, ":::", sign("::", 0), sign(":", 2))
	expectTokens(t, "::::", sign("::", 0), sign("::", 2))
	expectTokens(t, ": ::", sign(":", 0), sign("::", 2))
	expectTokens(t, ":: :", sign("::", 0), sign(":", 3))
	expectTokens(t, ":..:", sign(":", 0), sign("..", 1), sign(":", 3))
	expectTokens(t, "....", sign("..", 0), sign("..", 2))
	expectTokens(t, "1..-2", number("1", 1, 0), sign("..", 1), number("-2", -2, 3))
	for s, at := range map[string]int{".": 0, "...": 2, ".....": 4, ".. .": 3, ". ..": 0, "a.b": 1, "1.5": 1, "1...5": 3, ":.": 1, ".:": 0, "::.": 2, ".::": 0, ".:.": 0, "..:.": 3} {
		expectError(t, s, at, api.ErrForm)
	}
}

// P5.1: names of all their bytes, up to the first that is none of them.
func TestNames(t *testing.T) {
	const letters = "abcdefghijklmnopqrstuvwxyzABCDEFGHIJKLMNOPQRSTUVWXYZ_"
	for i := range len(letters) {
		expectTokens(t, letters[i:i+1], name(letters[i:i+1], 0))
		expectTokens(t, letters[i:]+"0123456789"+letters[:i], name(letters[i:]+"0123456789"+letters[:i], 0))
	}
	for _, s := range []string{"var", "int_lin_eq", "X_INTRODUCED_12_", "__", "_0", "a0b1", "true", "e10"} {
		expectTokens(t, s, name(s, 0))
		expectTokens(t, s+"-1", name(s, 0), number("-1", -1, len(s)))
		expectError(t, s+"\u00e9", len(s), api.ErrForm)
		expectError(t, s+"-", len(s), api.ErrForm)
	}
}

// P5.1: a - with digits behind it, and without.
func TestMinus(t *testing.T) {
	expectTokens(t, "-7", number("-7", -7, 0))
	expectTokens(t, "-0", number("-0", 0, 0))
	expectTokens(t, "-007", number("-007", -7, 0))
	expectTokens(t, "1-2", number("1", 1, 0), number("-2", -2, 1))
	expectTokens(t, "1 -2-3", number("1", 1, 0), number("-2", -2, 2), number("-3", -3, 4))
	expectTokens(t, "x-1", name("x", 0), number("-1", -1, 1))
	for s, at := range map[string]int{"-": 0, "--1": 0, "- 1": 0, "-a": 0, "-_": 0, "-;": 0, "-.": 0, "-..": 0, "-:": 0, "1-": 1, "1--2": 1, "-1-": 2, "x-y": 1, "+1": 0, "-+1": 0, "-\x00": 0, "-\xb2": 0, "\u22121": 0, "-\uff11": 0} {
		expectError(t, s, at, api.ErrForm)
	}
}

// P5.1: a name directly behind a number is a token of its own.
func TestNumberBeforeName(t *testing.T) {
	expectTokens(t, "1a", number("1", 1, 0), name("a", 1))
	expectTokens(t, "-1_x", number("-1", -1, 0), name("_x", 2))
	expectTokens(t, "007b8", number("007", 7, 0), name("b8", 3))
	expectTokens(t, "0x1F", number("0", 0, 0), name("x1F", 1))
	expectTokens(t, "1e5", number("1", 1, 0), name("e5", 1))
	expectTokens(t, "1_000", number("1", 1, 0), name("_000", 1))
	expectTokens(t, "9223372036854775807a", number("9223372036854775807", 1<<63-1, 0), name("a", 19))
	expectError(t, "9223372036854775808a", 0, api.ErrOver)
}

// P5.1: numbers in the range of 64 bits, at its ends too, and with many zeros in front.
func TestNumbersInRange(t *testing.T) {
	for _, n := range []int64{0, 1, -1, 9, 10, -10, 123456789, 1 << 20, -1 << 31, 1 << 32, 999999999999999999, -1000000000000000000, 1<<63 - 2, 1<<63 - 1, -1<<63 + 1, -1 << 63} {
		text := strconv.FormatInt(n, 10)
		digits, negative := strings.CutPrefix(text, "-")
		for _, zeros := range []int{0, 1, 2, 20, 8000} {
			s := strings.Repeat("0", zeros) + digits
			if negative {
				s = "-" + s
			}
			expectTokens(t, s, number(s, n, 0))
			expectTokens(t, "x "+s+";", name("x", 0), number(s, n, 2), sign(";", 2+len(s)))
		}
	}
}

// P5.1: numbers beyond the range of 64 bits, by one and by more.
func TestNumbersBeyondRange(t *testing.T) {
	for _, digits := range []string{"9223372036854775809", "9223372036854775810", "10000000000000000000", "18446744073709551615", "18446744073709551616", "18446744073709551617", "36893488147419103233", strings.Repeat("9", 100), "1" + strings.Repeat("0", 8000)} {
		for _, zeros := range []int{0, 1, 20, 100} {
			s := strings.Repeat("0", zeros) + digits
			expectError(t, s, 0, api.ErrOver)
			expectError(t, "-"+s, 0, api.ErrOver)
			expectError(t, "x = "+s+";", 4, api.ErrOver)
			expectError(t, " % 1\n-"+s, 5, api.ErrOver)
		}
	}
	for _, zeros := range []int{0, 1, 20, 8000} {
		expectError(t, strings.Repeat("0", zeros)+"9223372036854775808", 0, api.ErrOver)
		expectError(t, "-"+strings.Repeat("0", zeros)+"9223372036854775809", 0, api.ErrOver)
	}
}
