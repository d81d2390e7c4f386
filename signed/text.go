package signed

import (
	"strings"

	"touchstone/api"
	"touchstone/nat"
)

const minus = "-"

// Text returns a in decimal digits, behind "-" if a is negative.
func Text(a Int) (string, api.Errno) {
	if !Right(a) {
		return "", api.ErrArg
	}
	text, err := nat.Text(a.Mag)
	if err != api.OK {
		return "", err
	}
	if a.Neg {
		text = minus + text
	}
	return text, api.OK
}

// Parse returns the number that s denotes, which is a text of nat.Parse with or without "-"
// before it. It returns nat.Parse's error for that text, and ErrForm for "-0".
func Parse(s string) (Int, api.Errno) {
	decimals, neg := strings.CutPrefix(s, minus)
	mag, err := nat.Parse(decimals)
	if err != api.OK {
		return Int{}, err
	}
	if neg && len(mag) == 0 {
		return Int{}, api.ErrForm
	}
	return number(neg, mag), api.OK
}
