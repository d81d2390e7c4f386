package nat

import (
	"math"
	"math/bits"

	"touchstone/api"
)

// DivMod returns the greatest q for which q times b is at most a, and what is left of a; it
// returns ErrArg if b is 0.
func DivMod(a, b []uint32) ([]uint32, []uint32, api.Errno) {
	if !Right(a) || !Right(b) || len(b) == 0 {
		return nil, nil, api.ErrArg
	}
	if compare(a, b) < 0 {
		return nil, clone(a, len(a)), api.OK
	}
	if len(a) <= 2 {
		return Of(value(a) / value(b)), Of(value(a) % value(b)), api.OK
	}
	quotient := make([]uint32, quotientLength(a, b))
	if len(b) == 1 {
		rest := divideByDigit(quotient, a, b[0])
		return quotient, Of(uint64(rest)), api.OK
	}
	return quotient, divideLong(quotient, a, b), api.OK
}

// quotientLength returns the number of digits of a / b, where b is at most a.
func quotientLength(a, b []uint32) int {
	length := len(a) - len(b)
	// The quotient has one more digit if b goes into the highest digits of a, as many as b has.
	if compare(a[length:], b) >= 0 {
		length++
	}
	return length
}

// divideByDigit writes a / d into quotient and returns the remainder. The quotient has as many
// digits as a, or one less if the highest digit of a is less than d; it may be a itself.
func divideByDigit(quotient, a []uint32, d uint32) uint32 {
	var rest uint32
	if len(quotient) < len(a) {
		rest = a[len(a)-1]
	}
	for i := len(quotient) - 1; i >= 0; i-- {
		quotient[i], rest = bits.Div32(rest, a[i], d)
	}
	return rest
}

// divideLong writes a / b into quotient, which has its final length, and returns the remainder;
// b has two digits or more, and is at most a. Both numbers are shifted until the highest bit of
// b's highest digit is set: only then are b's two highest digits enough to estimate a digit of
// the quotient.
func divideLong(quotient, a, b []uint32) []uint32 {
	shift := uint(bits.LeadingZeros32(b[len(b)-1]))
	rest := shiftUp(a, shift)
	divisor := shiftUp(b, shift)[:len(b)]
	for i := len(quotient) - 1; i >= 0; i-- {
		quotient[i] = divideStep(rest[i:i+len(divisor)+1], divisor)
	}
	shiftDown(rest, shift)
	return clone(rest, significant(rest))
}

// shiftUp returns a times 2^shift in one digit more than a has; shift is less than digitBits.
func shiftUp(a []uint32, shift uint) []uint32 {
	shifted := make([]uint32, len(a)+1)
	for i := range a {
		shifted[i] |= a[i] << shift
		shifted[i+1] = a[i] >> (digitBits - shift)
	}
	return shifted
}

// shiftDown divides digits by 2^shift in their place; shift is less than digitBits.
func shiftDown(digits []uint32, shift uint) {
	for i := range digits {
		digits[i] >>= shift
		if i+1 < len(digits) {
			digits[i] |= digits[i+1] << (digitBits - shift)
		}
	}
}

// divideStep returns the one digit of rest / divisor, and leaves the remainder in rest; rest has
// one digit more than divisor, and is less than divisor times 2^32.
func divideStep(rest, divisor []uint32) uint32 {
	digit := estimate(rest, divisor)
	if subtractTimes(rest, divisor, digit) {
		digit--
		addBack(rest, divisor)
	}
	return digit
}

// estimate returns the digit of rest / divisor, or one more than it. The quotient of the highest
// digits by first is at most two too great; where second and the digit below show that it is too
// great at all, one less is at most one too great.
func estimate(rest, divisor []uint32) uint32 {
	last := len(divisor) - 1
	first, second := divisor[last], divisor[last-1]
	// The highest digits would give a quotient of more than one digit.
	if rest[last+1] >= first {
		return math.MaxUint32
	}
	digit, left := bits.Div32(rest[last+1], rest[last], first)
	high, low := bits.Mul32(digit, second)
	if high > left || high == left && low > rest[last-1] {
		digit--
	}
	return digit
}

// subtractTimes takes divisor times digit from rest, and reports whether that was too much: then
// rest has wrapped round.
func subtractTimes(rest, divisor []uint32, digit uint32) bool {
	var carry, borrow uint32
	for i := range divisor {
		high, low := bits.Mul32(divisor[i], digit)
		low, carry = bits.Add32(low, carry, 0)
		carry += high
		rest[i], borrow = bits.Sub32(rest[i], low, borrow)
	}
	last := len(divisor)
	rest[last], borrow = bits.Sub32(rest[last], carry, borrow)
	return borrow != 0
}

// addBack adds divisor to rest, which has wrapped round and so wraps back.
func addBack(rest, divisor []uint32) {
	var carry uint32
	for i := range divisor {
		rest[i], carry = bits.Add32(rest[i], divisor[i], carry)
	}
	rest[len(divisor)] += carry
}
