package nat

import (
	"strings"

	"touchstone/api"
)

// Decimal digits are taken in groups, the greatest that one digit to the base 2^32 can hold.
const (
	groupSize  = 9
	groupScale = 1000000000
)

// maxCharacters is the length of the longest text that Parse takes.
const maxCharacters = 2000

// Text returns a in decimal digits, without leading zeros.
func Text(a []uint32) (string, api.Errno) {
	if !Right(a) {
		return "", api.ErrArg
	}
	if len(a) == 0 {
		return "0", api.OK
	}
	rest := clone(a, len(a))
	// A digit is less than 10^10, and the highest group is filled up with zeros.
	decimals := make([]byte, 10*len(a)+groupSize)
	first := len(decimals)
	for len(rest) > 0 {
		group := divideByDigit(rest, rest, groupScale)
		rest = rest[:significant(rest)]
		first -= groupSize
		writeGroup(decimals[first:first+groupSize], group)
	}
	return strings.TrimLeft(string(decimals[first:]), "0"), api.OK
}

// writeGroup fills decimals with the lowest decimal digits of group.
func writeGroup(decimals []byte, group uint32) {
	for i := len(decimals) - 1; i >= 0; i-- {
		decimals[i] = '0' + byte(group%10)
		group /= 10
	}
}

// Parse returns the number that s denotes: ErrForm if s is no decimal number, or has leading
// zeros, and then ErrBig if it is too long.
func Parse(s string) ([]uint32, api.Errno) {
	if !isDecimal(s) {
		return nil, api.ErrForm
	}
	// A text that is not too long has at most 223 groups, and so no more digits than MaxDigits.
	if len(s) > maxCharacters {
		return nil, api.ErrBig
	}
	groups := (len(s) + groupSize - 1) / groupSize
	digits := make([]uint32, groups)
	for i := range groups {
		end := len(s) - groupSize*(groups-1-i)
		group := readGroup(s[max(0, end-groupSize):end])
		timesDigit(digits[:i+1], groupScale, group)
	}
	return cut(digits), api.OK
}

// isDecimal reports whether s is a decimal number without leading zeros.
func isDecimal(s string) bool {
	if len(s) == 0 || len(s) > 1 && s[0] == '0' {
		return false
	}
	for i := range len(s) {
		if s[i] < '0' || s[i] > '9' {
			return false
		}
	}
	return true
}

// readGroup returns the number that at most groupSize decimal digits denote.
func readGroup(decimals string) uint32 {
	var group uint32
	for i := range len(decimals) {
		group = 10*group + uint32(decimals[i]-'0')
	}
	return group
}

// timesDigit multiplies digits by factor in their place and adds carry; the result has to fit.
func timesDigit(digits []uint32, factor, carry uint32) {
	for i := range digits {
		carry, digits[i] = timesPlus(digits[i], factor, carry, 0)
	}
}
