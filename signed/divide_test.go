package signed_test

import (
	"math/big"
	"testing"

	"touchstone/api"
	"touchstone/signed"
)

func expectDivided(t *testing.T, x, y, quotient, rest *big.Int) {
	t.Helper()
	q, r, err := signed.DivMod(of(x), of(y))
	if !same(q, of(quotient)) || !same(r, of(rest)) || err != api.OK {
		t.Fatalf("DivMod(%s, %s) = %s, %s, %d; want %s, %s", brief(of(x)), brief(of(y)), brief(q), brief(r), err, brief(of(quotient)), brief(of(rest)))
	}
}

// expectNotDivided asks for ErrArg, and for zero values beside it.
func expectNotDivided(t *testing.T, a, b signed.Int) {
	t.Helper()
	q, r, err := signed.DivMod(a, b)
	if q.Neg || r.Neg || len(q.Mag)+len(r.Mag) != 0 || err != api.ErrArg {
		t.Errorf("DivMod(%s, %s) = %s, %s, %d; want an error", brief(a), brief(b), brief(q), brief(r), err)
	}
}

// roundedDown is the greatest integer that is at most x / y, and what it leaves.
func roundedDown(x, y *big.Int) (*big.Int, *big.Int) {
	quotient, rest := new(big.Int).QuoRem(x, y, new(big.Int))
	if rest.Sign()*y.Sign() < 0 {
		quotient.Sub(quotient, big.NewInt(1))
		rest.Add(rest, y)
	}
	return quotient, rest
}

// P3.2 (DivMod): all pairs of signs, with a remainder and without; b greater than a.
func TestDivMod(t *testing.T) {
	for _, c := range []struct{ a, b, quotient, rest int64 }{
		{7, 2, 3, 1},
		{-7, 2, -4, 1},
		{7, -2, -4, -1},
		{-7, -2, 3, -1},
		{6, 2, 3, 0},
		{-6, 2, -3, 0},
		{6, -2, -3, 0},
		{-6, -2, 3, 0},
		{0, 5, 0, 0},
		{0, -5, 0, 0},
		{2, 7, 0, 2},
		{-2, 7, -1, 5},
		{2, -7, -1, -5},
		{-2, -7, 0, -2},
		{7, 7, 1, 0},
		{-7, 7, -1, 0},
		{7, 1, 7, 0},
		{-7, 1, -7, 0},
		{7, -1, -7, 0},
		{-7, -1, 7, 0},
		{12, -18, -1, -6},
		{-1, 1 << 40, -1, 1<<40 - 1},
		{1, -1 << 40, -1, 1 - 1<<40},
		{-1 << 63, 1<<63 - 1, -2, 1<<63 - 2},
		{1<<63 - 1, -1 << 63, -1, -1},
		{-1 << 32, 3, -1431655766, 2},
		{1 - 1<<33, 2, -1 << 32, 1},
	} {
		expectDivided(t, big.NewInt(c.a), big.NewInt(c.b), big.NewInt(c.quotient), big.NewInt(c.rest))
	}
	if _, r, err := signed.DivMod(signed.Of(-1<<63), signed.Of(-1)); r.Neg || len(r.Mag) != 0 || err != api.OK {
		t.Errorf("DivMod(-2^63, -1) leaves %v, %d", r, err)
	}
}

// P3.2 (DivMod): by 0.
func TestDivModByZero(t *testing.T) {
	for _, x := range numbers() {
		expectNotDivided(t, of(x), signed.Int{})
		expectNotDivided(t, of(x), signed.Int{Mag: []uint32{}})
	}
}

// P3.2 (DivMod): quotients of 256 digits; the one that is nearest to 257 still fits, as a divisor
// of 1 or -1 leaves nothing.
func TestDivModOfTheGreatest(t *testing.T) {
	most, one, two := power(256, -1), big.NewInt(1), big.NewInt(2)
	negMost, half := new(big.Int).Neg(most), new(big.Int).Rsh(most, 1)
	negHalf := new(big.Int).Neg(half)
	above := new(big.Int).Sub(negHalf, one)
	for _, c := range []struct{ a, b, quotient, rest *big.Int }{
		{most, one, most, big.NewInt(0)},
		{negMost, one, negMost, big.NewInt(0)},
		{most, big.NewInt(-1), negMost, big.NewInt(0)},
		{negMost, big.NewInt(-1), most, big.NewInt(0)},
		{most, two, half, one},
		{negMost, two, above, one},
		{most, big.NewInt(-2), above, big.NewInt(-1)},
		{negMost, big.NewInt(-2), half, big.NewInt(-1)},
		{negMost, most, big.NewInt(-1), big.NewInt(0)},
		{big.NewInt(-1), most, big.NewInt(-1), power(256, -2)},
		{power(256, -2), negMost, big.NewInt(-1), big.NewInt(-1)},
		{new(big.Int).Neg(power(255, 0)), integer(false, 0, 1), new(big.Int).Neg(power(254, 0)), big.NewInt(0)},
		{new(big.Int).Neg(power(255, 1)), power(255, 0), big.NewInt(-2), power(255, -1)},
	} {
		expectDivided(t, c.a, c.b, c.quotient, c.rest)
	}
}

// P3.2 (DivMod), by exact arithmetic, for all pairs.
func TestDivModIsExact(t *testing.T) {
	for _, x := range numbers() {
		for _, y := range numbers() {
			if y.Sign() != 0 {
				quotient, rest := roundedDown(x, y)
				expectDivided(t, x, y, quotient, rest)
			}
		}
	}
}

// P3.2 (Gcd): 0, all pairs of signs, and numbers of one, two and more digits.
func TestGcd(t *testing.T) {
	for _, c := range []struct{ a, b, want int64 }{
		{0, 0, 0},
		{0, 5, 5},
		{0, -5, 5},
		{1, 5, 1},
		{12, 18, 6},
		{-12, 18, 6},
		{12, -18, 6},
		{-12, -18, 6},
		{7, 7, 7},
		{-7, 7, 7},
		{6, 18, 6},
		{17, 19, 1},
		{1 << 40, 1 << 35, 1 << 35},
		{3 << 40, -9 << 33, 3 << 33},
		{1<<62 + 1, 1 << 62, 1},
	} {
		expect(t, "Gcd", signed.Gcd, big.NewInt(c.a), big.NewInt(c.b), big.NewInt(c.want))
		expect(t, "Gcd", signed.Gcd, big.NewInt(c.b), big.NewInt(c.a), big.NewInt(c.want))
	}
	for _, c := range []struct{ a, b, want *big.Int }{
		{big.NewInt(-1 << 63), big.NewInt(-1 << 63), integer(false, 0, 1<<31)},
		{big.NewInt(0), integer(true, 1, 2, 3), integer(false, 1, 2, 3)},
		{big.NewInt(0), power(256, -1), power(256, -1)},
		{power(256, -1), new(big.Int).Neg(power(256, -1)), power(256, -1)},
		{power(256, -1), power(128, -1), power(128, -1)},
		{power(255, 0), new(big.Int).Neg(power(100, 0)), power(100, 0)},
		{power(256, -1), power(256, -2), big.NewInt(1)},
	} {
		expect(t, "Gcd", signed.Gcd, c.a, c.b, c.want)
		expect(t, "Gcd", signed.Gcd, c.b, c.a, c.want)
	}
}

// P3.2 (Gcd), by exact arithmetic: pairs of short numbers, multiples of one number, and the
// numbers of which Euclid's rule takes the most steps.
func TestGcdIsExact(t *testing.T) {
	check := func(x, y *big.Int) {
		t.Helper()
		want := new(big.Int).GCD(nil, nil, new(big.Int).Abs(x), new(big.Int).Abs(y))
		expect(t, "Gcd", signed.Gcd, x, y, want)
	}
	for _, x := range numbers() {
		for _, y := range short() {
			check(x, y)
			check(y, x)
		}
	}
	for _, common := range []*big.Int{big.NewInt(1), big.NewInt(-6), integer(false, 0, 1), mixed(40, 1), power(100, 0), mixed(100, 2)} {
		for _, y := range []*big.Int{mixed(1, 3), mixed(2, 4), mixed(60, 5), mixed(156, 6), power(150, -1)} {
			check(new(big.Int).Mul(common, mixed(70, 7)), new(big.Int).Mul(common, y))
		}
	}
	a, b := big.NewInt(1), big.NewInt(1)
	for b.BitLen() < 8190 {
		a, b = b, a.Add(a, b)
		if b.BitLen()%512 == 0 {
			check(a, b)
		}
	}
	check(a, b)
	check(new(big.Int).Neg(b), a)
}
