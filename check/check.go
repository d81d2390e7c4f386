// Package check is layer 1: arithmetic on 64-bit integers that reports overflow.
package check

import "touchstone/api"

// least is -2^63, the only number whose opposite overflows.
const least = -1 << 63

// Add returns a + b, or ErrOver if that overflows.
func Add(a, b int64) (int64, api.Errno) {
	sum := a + b
	// A sum that wraps round lands on the wrong side of a.
	if (sum > a) != (b > 0) {
		return 0, api.ErrOver
	}
	return sum, api.OK
}

// Sub returns a - b, or ErrOver if that overflows.
func Sub(a, b int64) (int64, api.Errno) {
	difference := a - b
	// A difference that wraps round lands on the wrong side of a.
	if (difference < a) != (b > 0) {
		return 0, api.ErrOver
	}
	return difference, api.OK
}

// Mul returns a times b, or ErrOver if that overflows.
func Mul(a, b int64) (int64, api.Errno) {
	if b == 0 {
		return 0, api.OK
	}
	// Dividing the product by -1 would give least again, and so hide the overflow.
	if a == least && b == -1 {
		return 0, api.ErrOver
	}
	product := a * b
	if product/b != a {
		return 0, api.ErrOver
	}
	return product, api.OK
}

// Floor returns the greatest integer that is at most a / b.
func Floor(a, b int64) (int64, api.Errno) {
	quotient, rest, err := divide(a, b)
	if err != api.OK {
		return 0, err
	}
	// The language rounds toward 0, which is up where the exact quotient is negative.
	if rest != 0 && (rest < 0) != (b < 0) {
		quotient--
	}
	return quotient, api.OK
}

// Ceil returns the least integer that is at least a / b.
func Ceil(a, b int64) (int64, api.Errno) {
	quotient, rest, err := divide(a, b)
	if err != api.OK {
		return 0, err
	}
	// The language rounds toward 0, which is down where the exact quotient is positive.
	if rest != 0 && (rest < 0) == (b < 0) {
		quotient++
	}
	return quotient, api.OK
}

// divide returns the quotient rounded toward 0 and the rest, whose sign is a's.
func divide(a, b int64) (quotient, rest int64, err api.Errno) {
	if b == 0 {
		return 0, 0, api.ErrArg
	}
	if a == least && b == -1 {
		return 0, 0, api.ErrOver
	}
	return a / b, a % b, api.OK
}

// Dot returns the sum of a[i] times b[i]. Every partial sum has to fit, even where a later
// product would bring the sum back into the range.
func Dot(a, b []int64) (int64, api.Errno) {
	if len(a) != len(b) {
		return 0, api.ErrArg
	}
	var sum int64
	for i := range a {
		product, err := Mul(a[i], b[i])
		if err != api.OK {
			return 0, err
		}
		sum, err = Add(sum, product)
		if err != api.OK {
			return 0, err
		}
	}
	return sum, api.OK
}
