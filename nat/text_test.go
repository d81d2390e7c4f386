package nat_test

import (
	"slices"
	"strings"
	"testing"

	"touchstone/api"
	"touchstone/nat"
)

// pairs are numbers and their texts.
func pairs() map[string]digits {
	return map[string]digits{
		"0":                                     nil,
		"1":                                     {1},
		"9":                                     {9},
		"10":                                    {10},
		"999999999":                             {999999999},
		"1000000000":                            {1000000000},
		"1000000001":                            {1000000001},
		"4294967295":                            {full},
		"4294967296":                            {0, 1},
		"4294967301":                            {5, 1},
		"10000000000":                           {1410065408, 2},
		"18446744073709551615":                  {full, full},
		"18446744073709551616":                  {0, 0, 1},
		"1000000000000000000000":                {3735027712, 902409669, 54},
		"1000000000000000000000000000000000007": {7, 3008077584, 2076772117, 12621774},
	}
}

func expectParsed(t *testing.T, s string, want digits, wantErr api.Errno) {
	t.Helper()
	if l, err := nat.Parse(s); !slices.Equal(l, want) || err != wantErr {
		t.Errorf("Parse(%.40q of %d) = %v, %d; want %v, %d", s, len(s), brief(l), err, brief(want), wantErr)
	}
}

// P2.3: texts of known numbers, both ways.
func TestTextAndParse(t *testing.T) {
	for s, a := range pairs() {
		if text, err := nat.Text(a); text != s || err != api.OK {
			t.Errorf("Text(%v) = %q, %d; want %q", a, text, err, s)
		}
		expectParsed(t, s, a, api.OK)
	}
	if text, err := nat.Text(digits{}); text != "0" || err != api.OK {
		t.Errorf("Text of no digits = %q, %d", text, err)
	}
}

// P2.3 (Text), by exact arithmetic.
func TestTextIsExact(t *testing.T) {
	for _, a := range append(numbers(), short(3)...) {
		if text, err := nat.Text(a); text != exact(a).String() || err != api.OK {
			t.Errorf("Text(%v) = %q, %d; want %q", brief(a), text, err, exact(a).String())
		}
	}
}

// P2.3 (Parse): texts of another form, even where they are too long as well.
func TestParseOfAnotherForm(t *testing.T) {
	for _, s := range []string{
		"", "00", "007", "01", "0000000000", "-1", "-0", "+1", "1a", "a1", "1 ", " 1", "1_000", "1,0", "1.0", "0x1", "1e3",
		"/", ":", "1/", "1:", "12345678901234567890/", "\x00", "1\x00", "1\n", "é", "1é", "٣", "1\xff", "１",
		"0" + strings.Repeat("1", 1999), "0" + strings.Repeat("1", 2000), strings.Repeat("0", 3000),
		strings.Repeat("1", 1999) + "x", strings.Repeat("1", 2000) + "x", strings.Repeat("1", 5000) + "-", "x" + strings.Repeat("1", 2500),
	} {
		expectParsed(t, s, nil, api.ErrForm)
	}
}

// P2.3 (Parse): texts of 2000 and 2001 characters, of every length of the highest group.
func TestParseOfLongTexts(t *testing.T) {
	for n := 1; n <= 2003; n++ {
		if n == 60 {
			n = 1980
		}
		for _, s := range []string{strings.Repeat("9", n), "1" + strings.Repeat("0", n-1), strings.Repeat("1234567890", 201)[:n]} {
			want, wantErr := fromText(s), api.OK
			if n > 2000 {
				want, wantErr = nil, api.ErrBig
			}
			expectParsed(t, s, want, wantErr)
		}
	}
	expectParsed(t, strings.Repeat("7", 2467), nil, api.ErrBig)
	expectParsed(t, strings.Repeat("7", 100000), nil, api.ErrBig)
}

// P2.6: Parse gives back what Text tells, up to the length that Parse takes (P2.3).
func TestParseOfText(t *testing.T) {
	for _, a := range append(numbers(), short(3)...) {
		text, err := nat.Text(a)
		if err != api.OK {
			t.Fatalf("Text(%v): %d", brief(a), err)
		}
		if len(text) <= 2000 {
			expectParsed(t, text, a, api.OK)
		} else {
			expectParsed(t, text, nil, api.ErrBig)
		}
	}
}

// P2.6: Text gives back what Parse takes.
func TestTextOfParse(t *testing.T) {
	texts := []string{"5", "42", strings.Repeat("9", 2000), "1" + strings.Repeat("0", 1999), "3" + strings.Repeat("000000000", 30), "7" + strings.Repeat("000000001", 222)}
	for s := range pairs() {
		texts = append(texts, s)
	}
	for _, s := range texts {
		a, err := nat.Parse(s)
		if err != api.OK || !nat.Right(a) {
			t.Errorf("Parse(%.40q) = %v, %d", s, brief(a), err)
		}
		if text, err := nat.Text(a); text != s || err != api.OK {
			t.Errorf("Text(Parse(%.40q)) = %q, %d", s, text, err)
		}
	}
}
