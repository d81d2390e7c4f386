package signed

import (
	"slices"

	"touchstone/api"
	"touchstone/nat"
)

// DivMod returns the greatest integer q that is at most a / b, and a - q b, which is 0 or has the
// sign of b; it returns ErrArg if b is 0.
func DivMod(a, b Int) (Int, Int, api.Errno) {
	if !Right(a) || !Right(b) {
		return Int{}, Int{}, api.ErrArg
	}
	quotient, rest, err := nat.DivMod(a.Mag, b.Mag)
	unlike := a.Neg != b.Neg
	if err == api.OK && unlike && len(rest) > 0 {
		quotient, rest, err = awayFromZero(quotient, rest, b.Mag)
	}
	if err != api.OK {
		return Int{}, Int{}, err
	}
	return number(unlike, quotient), number(b.Neg, rest), api.OK
}

// awayFromZero returns the next greater quotient, and what it has too much: nat rounds toward 0,
// which is up where the exact quotient is negative.
func awayFromZero(quotient, rest, divisor []uint32) ([]uint32, []uint32, api.Errno) {
	greater, err := nat.Add(quotient, nat.Of(1))
	if err != api.OK {
		return nil, nil, err
	}
	excess, err := nat.Sub(divisor, rest)
	return greater, excess, err
}

// Gcd returns the greatest number that divides a and b without remainder, and 0 for 0 and 0.
func Gcd(a, b Int) (Int, api.Errno) {
	if !Right(a) || !Right(b) {
		return Int{}, api.ErrArg
	}
	return number(false, gcd(a.Mag, b.Mag)), api.OK
}

// gcd is Gcd for valid digits. Once both numbers fit into 64 bits, it goes on with those, as a
// step then needs no memory.
func gcd(a, b []uint32) []uint32 {
	for len(b) > 0 {
		small, errA := nat.Uint(a)
		other, errB := nat.Uint(b)
		if errA == api.OK && errB == api.OK {
			return nat.Of(gcdSmall(small, other))
		}
		_, rest, _ := nat.DivMod(a, b)
		a, b = b, rest
	}
	return slices.Clone(a)
}

func gcdSmall(a, b uint64) uint64 {
	for b > 0 {
		a, b = b, a%b
	}
	return a
}
