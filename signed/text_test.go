package signed_test

import (
	"math/big"
	"strings"
	"testing"

	"touchstone/api"
	"touchstone/signed"
)

func expectParsed(t *testing.T, s string, want *big.Int) {
	t.Helper()
	if a, err := signed.Parse(s); !same(a, of(want)) || err != api.OK {
		t.Errorf("Parse(%.40q of %d) = %s, %d; want %s", s, len(s), brief(a), err, brief(of(want)))
	}
}

func expectNotParsed(t *testing.T, s string, want api.Errno) {
	t.Helper()
	if a, err := signed.Parse(s); a.Neg || len(a.Mag) != 0 || err != want {
		t.Errorf("Parse(%.40q of %d) = %s, %d; want the error %d", s, len(s), brief(a), err, want)
	}
}

// P3.3: texts of known numbers, both ways.
func TestTextAndParse(t *testing.T) {
	for s, n := range map[string]*big.Int{
		"0":                               integer(false),
		"1":                               integer(false, 1),
		"-1":                              integer(true, 1),
		"-7":                              integer(true, 7),
		"-10":                             integer(true, 10),
		"4294967295":                      integer(false, full),
		"-4294967296":                     integer(true, 0, 1),
		"9223372036854775807":             integer(false, full, 1<<31-1),
		"9223372036854775808":             integer(false, 0, 1<<31),
		"-9223372036854775808":            integer(true, 0, 1<<31),
		"-18446744073709551616":           integer(true, 0, 0, 1),
		"-123456789012345678901234567890": integer(true, 1312754386, 3279151342, 2397638646, 1),
	} {
		if text, err := signed.Text(of(n)); text != s || err != api.OK {
			t.Errorf("Text(%s) = %q, %d; want %q", brief(of(n)), text, err, s)
		}
		expectParsed(t, s, n)
	}
	if text, err := signed.Text(signed.Int{Mag: []uint32{}}); text != "0" || err != api.OK {
		t.Errorf("Text of no digits = %q, %d", text, err)
	}
}

// P3.3 (Text), by exact arithmetic.
func TestTextIsExact(t *testing.T) {
	for _, x := range numbers() {
		if text, err := signed.Text(of(x)); text != x.String() || err != api.OK {
			t.Errorf("Text(%s) = %.80q, %d; want %.80q", brief(of(x)), text, err, x.String())
		}
	}
}

// P3.3 (Parse): texts of another form, even where they are too long as well.
func TestParseOfAnotherForm(t *testing.T) {
	for _, s := range []string{
		"", "-", "-0", "--", "--1", "+1", "-+1", "+-1", "007", "-007", "00", "-00", "-01", "01", "1-", "-1-", "1-1", " -1", "- 1", "-1 ", "1a", "-a", "-1a",
		"-0x1", "-1.0", "-1e3", "-\x00", "\x00-1", "−1", "-１", "-٣", "-\xff", "–1",
		"-0" + strings.Repeat("1", 2000), "-" + strings.Repeat("0", 3000), "-" + strings.Repeat("1", 2000) + "x", "--" + strings.Repeat("1", 2000), strings.Repeat("-", 3000),
	} {
		expectNotParsed(t, s, api.ErrForm)
	}
}

// P3.3 (Parse): texts of 2000 and 2001 digits, behind "-" and without it.
func TestParseOfLongTexts(t *testing.T) {
	for _, digits := range []string{strings.Repeat("9", 2000), "1" + strings.Repeat("0", 1999), strings.Repeat("1234567890", 200), strings.Repeat("7", 1999)} {
		for _, sign := range []string{"", "-"} {
			want, _ := new(big.Int).SetString(sign+digits, 10)
			expectParsed(t, sign+digits, want)
			expectNotParsed(t, sign+digits+"05", api.ErrBig)
		}
	}
	for _, sign := range []string{"", "-"} {
		for _, length := range []int{2001, 2002, 2467, 2500, 100000} {
			expectNotParsed(t, sign+strings.Repeat("7", length), api.ErrBig)
		}
	}
}

// P3.7: Parse gives back what Text tells, up to the length that Parse takes (P3.3).
func TestParseOfText(t *testing.T) {
	limit := new(big.Int).Exp(big.NewInt(10), big.NewInt(2000), nil)
	edges := bothSigns([]*big.Int{limit, new(big.Int).Sub(limit, big.NewInt(1)), new(big.Int).Quo(limit, big.NewInt(10))})
	back := 0
	for _, x := range append(numbers(), edges...) {
		text, err := signed.Text(of(x))
		if err != api.OK {
			t.Fatalf("Text(%s): %d", brief(of(x)), err)
		}
		if x.CmpAbs(limit) < 0 {
			expectParsed(t, text, x)
			back++
		} else {
			expectNotParsed(t, text, api.ErrBig)
		}
	}
	if back < 100 {
		t.Errorf("only %d numbers came back", back)
	}
}
