package signed_test

import (
	"math/big"
	"slices"
	"testing"

	"touchstone/api"
	"touchstone/nat"
	"touchstone/signed"
)

// few are numbers of all lengths, few enough for all their triples.
func few() []*big.Int {
	return append(bothSigns([]*big.Int{
		big.NewInt(1), big.NewInt(2), big.NewInt(7), big.NewInt(full), power(1, 0), power(2, -1), mixed(5, 1), mixed(100, 2), power(127, 3), power(128, -1), power(255, 0), power(256, -1),
	}), big.NewInt(0))
}

// expectAgain asks for what another call has answered.
func expectAgain(t *testing.T, name string, f operation, a, b, want signed.Int, wantErr api.Errno) {
	t.Helper()
	if n, err := f(a, b); !same(n, want) || err != wantErr {
		t.Fatalf("%s(%s, %s) = %s, %d; want %s, %d", name, brief(a), brief(b), brief(n), err, brief(want), wantErr)
	}
}

// P3.4: Add and Mul are commutative, and refuse alike.
func TestCommutative(t *testing.T) {
	for _, x := range numbers() {
		for _, y := range numbers() {
			a, b := of(x), of(y)
			sum, err := signed.Add(a, b)
			expectAgain(t, "Add", signed.Add, b, a, sum, err)
			product, err := signed.Mul(a, b)
			expectAgain(t, "Mul", signed.Mul, b, a, product, err)
		}
	}
}

// expectAssociative asks for the same of both orders, where all results fit, and tells whether
// they do.
func expectAssociative(t *testing.T, name string, f operation, a, b, c signed.Int) bool {
	t.Helper()
	left, errLeft := f(a, b)
	right, errRight := f(b, c)
	if errLeft != api.OK || errRight != api.OK {
		return false
	}
	want, errWant := f(left, c)
	n, err := f(a, right)
	if errWant != api.OK || err != api.OK {
		return false
	}
	if !same(n, want) {
		t.Fatalf("%s of %s, %s, %s: %s and %s", name, brief(a), brief(b), brief(c), brief(want), brief(n))
	}
	return true
}

// P3.4: Add and Mul are associative, where the results fit.
func TestAssociative(t *testing.T) {
	sums, products := 0, 0
	for _, x := range few() {
		for _, y := range few() {
			for _, z := range few() {
				a, b, c := of(x), of(y), of(z)
				if expectAssociative(t, "Add", signed.Add, a, b, c) {
					sums++
				}
				if expectAssociative(t, "Mul", signed.Mul, a, b, c) {
					products++
				}
			}
		}
	}
	if sums < 10000 || products < 5000 {
		t.Errorf("only %d sums and %d products", sums, products)
	}
}

// P3.4: Mul is distributive over Add, where the results fit.
func TestDistributive(t *testing.T) {
	tried := 0
	for _, x := range few() {
		for _, y := range few() {
			for _, z := range few() {
				a, b, c := of(x), of(y), of(z)
				sum, errSum := signed.Add(a, b)
				first, errFirst := signed.Mul(a, c)
				second, errSecond := signed.Mul(b, c)
				if errSum != api.OK || errFirst != api.OK || errSecond != api.OK {
					continue
				}
				want, err := signed.Add(first, second)
				expectAgain(t, "Mul", signed.Mul, sum, c, want, err)
				tried++
			}
		}
	}
	if tried < 5000 {
		t.Errorf("only %d sums were multiplied", tried)
	}
}

// P3.4: the sum of a number and its opposite is 0.
func TestOpposite(t *testing.T) {
	for _, x := range numbers() {
		opposite, err := signed.Neg(of(x))
		if err != api.OK || !signed.Right(opposite) {
			t.Fatalf("Neg(%s) = %s, %d", brief(of(x)), brief(opposite), err)
		}
		expectAgain(t, "Add", signed.Add, of(x), opposite, signed.Int{}, api.OK)
		back, err := signed.Neg(opposite)
		if !same(back, of(x)) || err != api.OK {
			t.Errorf("the opposite of the opposite of %s = %s, %d", brief(of(x)), brief(back), err)
		}
	}
}

// P3.5: a is q b + r, and r is 0 or lies strictly between 0 and b.
func TestDivided(t *testing.T) {
	for _, x := range numbers() {
		for _, y := range numbers() {
			if y.Sign() == 0 {
				continue
			}
			a, b := of(x), of(y)
			q, r, err := signed.DivMod(a, b)
			if err != api.OK || !signed.Right(q) || !signed.Right(r) {
				t.Fatalf("DivMod(%s, %s) = %s, %s, %d", brief(a), brief(b), brief(q), brief(r), err)
			}
			if c, err := nat.Cmp(r.Mag, b.Mag); len(r.Mag) > 0 && (r.Neg != b.Neg || c != -1 || err != api.OK) {
				t.Fatalf("DivMod(%s, %s) leaves %s", brief(a), brief(b), brief(r))
			}
			product := new(big.Int).Mul(integer(q.Neg, q.Mag...), y)
			if product.Add(product, integer(r.Neg, r.Mag...)).Cmp(x) != 0 {
				t.Fatalf("DivMod(%s, %s) = %s, %s comes back as %s", brief(a), brief(b), brief(q), brief(r), brief(of(product)))
			}
		}
	}
}

func expectDivides(t *testing.T, divisor, a signed.Int) {
	t.Helper()
	if _, r, err := signed.DivMod(a, divisor); len(r.Mag) != 0 || err != api.OK {
		t.Errorf("%s leaves %s of %s, %d", brief(divisor), brief(r), brief(a), err)
	}
}

// P3.6: Gcd divides both numbers, and each number that divides both divides it.
func TestGcdDivides(t *testing.T) {
	commons := []*big.Int{big.NewInt(1), big.NewInt(-2), big.NewInt(30), integer(false, 0, 1), integer(true, 3, 0, 1), mixed(90, 5)}
	for _, common := range commons {
		for _, x := range few() {
			for _, y := range few() {
				a, errA := owed(new(big.Int).Mul(x, common))
				b, errB := owed(new(big.Int).Mul(y, common))
				if errA != api.OK || errB != api.OK || x.Sign() == 0 && y.Sign() == 0 {
					continue
				}
				gcd, err := signed.Gcd(a, b)
				if err != api.OK || !signed.Right(gcd) || gcd.Neg || len(gcd.Mag) == 0 {
					t.Fatalf("Gcd(%s, %s) = %s, %d", brief(a), brief(b), brief(gcd), err)
				}
				expectDivides(t, gcd, a)
				expectDivides(t, gcd, b)
				expectDivides(t, of(common), gcd)
			}
		}
	}
}

// P3.6, by each divisor that there may be, for all small pairs.
func TestGcdIsTheGreatest(t *testing.T) {
	for x := int64(-36); x <= 36; x++ {
		for y := int64(-36); y <= 36; y++ {
			want := int64(0)
			for d := int64(1); d <= 36; d++ {
				if x%d == 0 && y%d == 0 && (x != 0 || y != 0) {
					want = d
				}
			}
			expectAgain(t, "Gcd", signed.Gcd, signed.Of(x), signed.Of(y), signed.Of(want), api.OK)
		}
	}
}

// spoil writes to the digits of a result, and to the memory behind their end.
func spoil(a signed.Int) {
	l := a.Mag[:cap(a.Mag)]
	for i := range l {
		l[i] ^= 0x5a5a5a5a
	}
}

// guarded is a number with memory behind its digits, which a call must not touch.
func guarded(x *big.Int) signed.Int {
	a := of(x)
	behind := append(slices.Clone(a.Mag), 77, 78)
	a.Mag = behind[:len(a.Mag)]
	return a
}

// expectKept asks whether an argument, and the memory behind it, is what guarded has made.
func expectKept(t *testing.T, name string, a signed.Int, x *big.Int) {
	t.Helper()
	behind := a.Mag[len(a.Mag) : len(a.Mag)+2]
	if !same(a, of(x)) || behind[0] != 77 || behind[1] != 78 {
		t.Fatalf("%s changed %s to %s, %v", name, brief(of(x)), brief(a), behind)
	}
}

// R4 and R6: the calls leave their arguments as they are, keep nothing, and hand out memory of
// their own.
func TestResultsAreNew(t *testing.T) {
	divided := func(rest bool) operation {
		return func(a, b signed.Int) (signed.Int, api.Errno) {
			q, r, err := signed.DivMod(a, b)
			if rest {
				q, r = r, q
			}
			spoil(r)
			return q, err
		}
	}
	calls := map[string]operation{
		"Add": signed.Add, "Mul": signed.Mul, "Gcd": signed.Gcd, "the quotient": divided(false), "the rest": divided(true),
		"Neg": func(a, _ signed.Int) (signed.Int, api.Errno) { return signed.Neg(a) },
		"Cmp": func(a, b signed.Int) (signed.Int, api.Errno) {
			c, err := signed.Cmp(a, b)
			return signed.Of(int64(c)), err
		},
		"Small": func(a, _ signed.Int) (signed.Int, api.Errno) {
			n, err := signed.Small(a)
			return signed.Of(n), err
		},
		"Text": func(a, _ signed.Int) (signed.Int, api.Errno) {
			text, _ := signed.Text(a)
			return signed.Parse(text)
		},
	}
	for name, f := range calls {
		for _, x := range few() {
			for _, y := range few() {
				a, b := guarded(x), guarded(y)
				first, err := f(a, b)
				want := signed.Int{Neg: first.Neg, Mag: slices.Clone(first.Mag)}
				spoil(first)
				expectKept(t, name, a, x)
				expectKept(t, name, b, y)
				expectAgain(t, name, f, a, b, want, err)
			}
		}
	}
	spoil(signed.Of(-5))
	if a := signed.Of(-5); !same(a, of(big.NewInt(-5))) {
		t.Errorf("Of(-5) = %v the second time", a)
	}
}
