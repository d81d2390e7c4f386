package nat_test

import (
	"math/big"
	"slices"
	"testing"

	"touchstone/api"
	"touchstone/nat"
)

func expectDivided(t *testing.T, a, b, quotient, rest digits) {
	t.Helper()
	q, r, err := nat.DivMod(a, b)
	if !slices.Equal(q, quotient) || !slices.Equal(r, rest) || err != api.OK {
		t.Fatalf("DivMod(%v, %v) = %v, %v, %d; want %v, %v", brief(a), brief(b), brief(q), brief(r), err, brief(quotient), brief(rest))
	}
}

// P2.2 (DivMod): by 0, by more, by the same, by 1, by one digit and by several.
func TestDivMod(t *testing.T) {
	most := repeated(256, full)
	for _, c := range []struct{ a, b, quotient, rest digits }{
		{nil, digits{1}, nil, nil},
		{nil, most, nil, nil},
		{digits{7}, digits{2}, digits{3}, digits{1}},
		{digits{6}, digits{2}, digits{3}, nil},
		{digits{7}, digits{7}, digits{1}, nil},
		{digits{7}, digits{8}, nil, digits{7}},
		{digits{7}, digits{0, 1}, nil, digits{7}},
		{digits{7, 1}, digits{8, 1}, nil, digits{7, 1}},
		{digits{7, 1}, digits{7, 1}, digits{1}, nil},
		{digits{0, 1}, digits{1}, digits{0, 1}, nil},
		{digits{0, 1}, digits{full}, digits{1}, digits{1}},
		{digits{full, full}, digits{full}, digits{1, 1}, nil},
		{digits{full, full}, digits{0, 1}, digits{full}, digits{full}},
		{digits{0, 0, 1}, digits{3}, digits{1431655765, 1431655765}, digits{1}},
		{digits{0, 0, 3}, digits{3}, digits{0, 0, 1}, nil},
		{digits{5, 0, 2}, digits{3}, digits{2863311532, 2863311530}, digits{1}},
		{digits{0, 0, 0, 1}, digits{0, 1}, digits{0, 0, 1}, nil},
		{digits{1, 2, 3}, digits{1, 2, 3}, digits{1}, nil},
		{digits{1, 2, 3}, digits{2, 2, 3}, nil, digits{1, 2, 3}},
		{digits{1, 2, 3}, digits{0, 2, 3}, digits{1}, digits{1}},
		{most, digits{1}, most, nil},
		{most, most, digits{1}, nil},
		{most, repeated(255, full), digits{0, 1}, digits{full}},
		{repeated(255, full), most, nil, repeated(255, full)},
		{power(255), repeated(255, full), digits{1}, digits{1}},
		{power(255), power(128), power(127), nil},
		{append(digits{9}, power(254)...), power(128), power(127), digits{9}},
	} {
		expectDivided(t, c.a, c.b, c.quotient, c.rest)
	}
	for _, a := range numbers() {
		for _, zero := range []digits{nil, {}} {
			if q, r, err := nat.DivMod(a, zero); len(q) != 0 || len(r) != 0 || err != api.ErrArg {
				t.Errorf("DivMod(%v, 0) = %v, %v, %d", brief(a), q, r, err)
			}
		}
	}
}

// P2.2 (DivMod): quotients whose first estimate of a digit is too great, by one or by two, or
// would not even be a digit.
func TestDivModOfEstimates(t *testing.T) {
	for _, c := range []struct{ a, b, quotient, rest digits }{
		{digits{0, 0, 1 << 31}, digits{1, 1 << 31}, digits{full}, digits{1, 1<<31 - 1}},
		{digits{3, 0, 1 << 31}, digits{1, 0, 1 << 29}, digits{3}, digits{0, 0, 1 << 29}},
		{digits{3, 0, 1 << 15}, digits{1, 0, 1 << 13}, digits{3}, digits{0, 0, 1 << 13}},
		{digits{0, 0, 1 << 15, 1<<15 - 1}, digits{1, 0, 1 << 15}, digits{0xfffe0000}, digits{0x20000, full, 1<<15 - 1}},
		{digits{0, 0, 1 << 31, 1<<31 - 1}, digits{1, 0, 1 << 31}, digits{full - 1}, digits{2, full, 1<<31 - 1}},
		{digits{0, full - 1, 0, 1 << 15}, digits{full, 0, 1 << 15}, digits{full}, digits{full, full, 1<<15 - 1}},
		{digits{0, full - 1, 0, 1 << 31}, digits{full, 0, 1 << 31}, digits{full}, digits{full, full, 1<<31 - 1}},
		{digits{0, 0, 0, 1 << 31}, digits{full, 1 << 31}, digits{5, full - 1}, digits{5, 1<<31 - 7}},
	} {
		want := new(big.Int).Mul(exact(c.b), exact(c.quotient))
		if want.Add(want, exact(c.rest)).Cmp(exact(c.a)) != 0 {
			t.Errorf("the case of %v and %v is wrong itself", c.a, c.b)
		}
		expectDivided(t, c.a, c.b, c.quotient, c.rest)
	}
}

// P2.2 (DivMod), by exact arithmetic, for all pairs of short numbers of the edges, and for long
// ones.
func TestDivModIsExact(t *testing.T) {
	divide := func(a, b digits, x, y *big.Int) {
		t.Helper()
		q, r := new(big.Int).QuoRem(x, y, new(big.Int))
		expectDivided(t, a, b, asDigits(q), asDigits(r))
	}
	divisors := short(3)[1:]
	values := make([]*big.Int, len(divisors))
	for i, b := range divisors {
		values[i] = exact(b)
	}
	for _, a := range short(4) {
		x := exact(a)
		for i, b := range divisors {
			divide(a, b, x, values[i])
		}
	}
	for _, a := range numbers() {
		for _, b := range numbers() {
			if len(b) > 0 {
				divide(a, b, exact(a), exact(b))
			}
		}
	}
}

// P2.2 (DivMod): numbers built around a multiple of the divisor.
func TestDivModBesideMultiples(t *testing.T) {
	one := big.NewInt(1)
	for _, b := range []digits{{3}, {full}, {1, 1 << 31}, {full, full}, {full, 1}, {0, 0, 1}, mixed(5, 1), mixed(64, 2), repeated(64, full)} {
		for _, q := range []digits{{1}, {full}, {0, 1}, mixed(3, 3), repeated(64, full), power(64), mixed(190, 4)} {
			product := new(big.Int).Mul(exact(b), exact(q))
			expectDivided(t, asDigits(product), b, q, nil)
			last := new(big.Int).Sub(exact(b), one)
			expectDivided(t, asDigits(new(big.Int).Add(product, last)), b, q, asDigits(last))
			expectDivided(t, asDigits(new(big.Int).Sub(product, one)), b, asDigits(new(big.Int).Sub(exact(q), one)), asDigits(last))
		}
	}
}
