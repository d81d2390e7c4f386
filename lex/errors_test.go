package lex_test

import (
	"strings"
	"testing"

	"touchstone/api"
	"touchstone/lex"
)

// P5.1: for each of the 256 bytes, whether a token or white space begins with it, alone and behind
// another token.
func TestEveryByte(t *testing.T) {
	const begins = "abcdefghijklmnopqrstuvwxyzABCDEFGHIJKLMNOPQRSTUVWXYZ_0123456789:{}[](),;= \t\n\r%"
	for b := range 256 {
		s := string([]byte{byte(b)})
		if strings.Contains(begins, s) {
			if _, at, err := lex.Split(s); at != 0 || err != api.OK {
				t.Errorf("Split(%q): %d, %d", s, at, err)
			}
			continue
		}
		expectError(t, s, 0, api.ErrForm)
		expectError(t, "var"+s, 3, api.ErrForm)
		expectError(t, s+"var", 0, api.ErrForm)
		expectError(t, " %\n12"+s+"x", 5, api.ErrForm)
		expectError(t, "= "+s+" "+s, 2, api.ErrForm)
	}
}

// P5.1: characters beyond the 128 first, letters, digits and spaces among them, and bytes that are
// no character.
func TestOtherCharacters(t *testing.T) {
	for _, s := range []string{"\u00e9", "\u03a9", "\u017f", "\u212a", "\u0663", "\uff11", "\u00b2", "\u00a0", "\u2003", "\u0085", "\ufeff", "\v", "\f", "\u2025", "\uff1a", "\uff1b", "\U0001f600", "\x80", "\xc3", "\xe2\x82", "\xff\xfe", "\xed\xa0\x80"} {
		expectError(t, s, 0, api.ErrForm)
		expectError(t, "a "+s, 2, api.ErrForm)
		expectError(t, "a"+s+"b", 1, api.ErrForm)
		expectError(t, "12"+s, 2, api.ErrForm)
		expectError(t, "x::"+s, 3, api.ErrForm)
		expectTokens(t, "%"+s+"\na", name("a", 2+len(s)))
	}
}

// P5.1: the first error of a text is told, whichever it is.
func TestFirstError(t *testing.T) {
	const over = "9223372036854775808"
	expectError(t, "? "+over, 0, api.ErrForm)
	expectError(t, over+" ?", 0, api.ErrOver)
	expectError(t, "1 -"+over+"1 - .", 2, api.ErrOver)
	expectError(t, "a . b .. "+over, 2, api.ErrForm)
	expectError(t, "-"+over+"-", 20, api.ErrForm)
	expectError(t, over+"-", 0, api.ErrOver)
	expectError(t, "%"+over+" ?\n\t"+over, 24, api.ErrOver)
}

// full makes s as long as a text may be, by what is put behind it.
func full(s, behind string) string {
	return s + strings.Repeat(behind, api.MaxText-len(s))
}

// P5.1: texts of 8192 bytes.
func TestLongTexts(t *testing.T) {
	long := full("", "n")
	expectTokens(t, long, name(long, 0))
	expectTokens(t, full("", " "))
	expectTokens(t, full("%", "?"))
	expectTokens(t, full("a%", "\xe2"), name("a", 0))
	expectTokens(t, full("", " ")[1:]+"z", name("z", 8191))
	zeros := full("-", "0")
	expectTokens(t, zeros, number(zeros, 0, 0))
	expectError(t, full("", "9"), 0, api.ErrOver)
	expectError(t, full("", "-"), 0, api.ErrForm)
	expectError(t, full("", " ")[1:]+"?", 8191, api.ErrForm)
	expectError(t, full("", " ")[1:]+".", 8191, api.ErrForm)
	expectError(t, full("", "a")[1:]+"-", 8191, api.ErrForm)
	expectError(t, full("", "\n")[19:]+"9223372036854775808", 8173, api.ErrOver)
}

// P5.1: texts of more than 8192 bytes are told first of all, at the offset 0, whatever they hold.
func TestTooLongTexts(t *testing.T) {
	for _, s := range []string{"n", " ", "%", ";", "?", "9", "-", ".", "\xff", "\n", "\x00"} {
		expectError(t, strings.Repeat(s, 8193), 0, api.ErrBig)
		expectError(t, strings.Repeat(s, 100000), 0, api.ErrBig)
	}
	expectError(t, full("ab ? 99999999999999999999", "; ")+"x", 0, api.ErrBig)
	expectError(t, full("", " ")+"\n", 0, api.ErrBig)
	expectError(t, full("%", " ")+" ", 0, api.ErrBig)
	// 2731 characters, but 8193 bytes.
	expectError(t, strings.Repeat("\u2200", 2731), 0, api.ErrBig)
	expectError(t, "%"+strings.Repeat("\u2200", 2731), 0, api.ErrBig)
	expectTokens(t, "%"+strings.Repeat("\u2200", 2730))
}

// expectCount asks for so many tokens.
func expectCount(t *testing.T, s string, want int) {
	t.Helper()
	if l, at, err := lex.Split(s); len(l) != want || at != 0 || err != api.OK {
		t.Errorf("Split(%.20q of %d): %d tokens, %d, %d; want %d tokens", s, len(s), len(l), at, err, want)
	}
}

// P5.1: texts of 4096 tokens, with white space behind them, and of all kinds.
func TestManyTokens(t *testing.T) {
	signs := strings.Repeat(";", 4096)
	for _, behind := range []string{"", " ", "\n", "%", " % ; ? 1\n\t", strings.Repeat(" ", 4096), strings.Repeat("%\n", 2048), "%" + strings.Repeat("?", 4095)} {
		expectCount(t, signs[1:]+behind, 4095)
		expectCount(t, signs+behind, 4096)
	}
	for _, s := range []string{"::", "..", ": ", "a ", "1 ", "-7"} {
		expectCount(t, strings.Repeat(s, 4096), 4096)
	}
	for _, s := range []string{"a;", "1a", "x-1", ":::", "7.."} {
		expectCount(t, strings.Repeat(s+" ", 2048), 4096)
	}
	l, _, _ := lex.Split(signs)
	for i, token := range l {
		if token != sign(";", i) {
			t.Fatalf("token %d is %v", i, token)
		}
	}
}

// P5.1: the token of which there are too many is told at its own offset, before it is looked at.
func TestTooManyTokens(t *testing.T) {
	signs := strings.Repeat(";", 4096)
	for _, token := range []string{";", "a", "1", "::", "?", ".", "-", "\xff", "9223372036854775808", "-9223372036854775809"} {
		for _, space := range []string{"", " ", "%\n", " \t% ?\r\n "} {
			for _, behind := range []string{"", ";;", " ?", "%"} {
				expectError(t, signs+space+token+behind, 4096+len(space), api.ErrBig)
			}
		}
	}
	expectError(t, strings.Repeat("a;", 2048)+"b", 4096, api.ErrBig)
	expectError(t, strings.Repeat(";", 8192), 4096, api.ErrBig)
}

// P5.1: another error that stands before the token of which there are too many is told instead.
func TestErrorBeforeTooManyTokens(t *testing.T) {
	signs := strings.Repeat(";", 4095)
	expectError(t, signs+"?;;", 4095, api.ErrForm)
	expectError(t, signs+" .;;", 4096, api.ErrForm)
	expectError(t, signs+"%\n9223372036854775808;;", 4097, api.ErrOver)
	expectError(t, "-"+signs+";;", 0, api.ErrForm)
}
