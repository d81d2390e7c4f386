package ratio_test

import (
	"math/big"
	"slices"
	"testing"

	"touchstone/api"
	"touchstone/ratio"
	"touchstone/signed"
)

// few are fractions of all kinds, few enough for all their triples.
func few() []ratio.Rat {
	var l []ratio.Rat
	for _, r := range append(bothSigns([]*big.Rat{
		big.NewRat(1, 1), big.NewRat(1, 2), big.NewRat(7, 3), big.NewRat(5, 6), whole(power(2, -1)), over(big.NewInt(1), power(1, 0)), over(mixed(3, 1), mixed(2, 2)), whole(most()), over(big.NewInt(1), power(63, 0)),
	}), new(big.Rat)) {
		l = append(l, rat(r))
	}
	return l
}

// whatFits gives the result of a call, and keeps in mind whether all of them fit so far.
func whatFits(t *testing.T, fit *bool, f operation, a, b ratio.Rat) ratio.Rat {
	t.Helper()
	if !*fit {
		return ratio.Rat{}
	}
	c, err := f(a, b)
	if err != api.OK && err != api.ErrBig {
		t.Fatalf("of %s and %s: the error %d", brief(a), brief(b), err)
	}
	if err == api.OK && !ratio.Right(c) {
		t.Fatalf("of %s and %s: %s, which is not valid", brief(a), brief(b), brief(c))
	}
	*fit = err == api.OK
	return c
}

// P4.4: Add and Mul are commutative, and refuse alike.
func TestCommutative(t *testing.T) {
	for _, x := range fractions() {
		for _, y := range short() {
			a, b := rat(x), rat(y)
			sum, err := ratio.Add(a, b)
			expectAgain(t, "Add", ratio.Add, b, a, sum, err)
			product, err := ratio.Mul(a, b)
			expectAgain(t, "Mul", ratio.Mul, b, a, product, err)
		}
	}
}

// P4.4: Add and Mul are associative, where the results fit.
func TestAssociative(t *testing.T) {
	for name, f := range map[string]operation{"Add": ratio.Add, "Mul": ratio.Mul} {
		tried := 0
		for _, a := range few() {
			for _, b := range few() {
				for _, c := range few() {
					fit := true
					left := whatFits(t, &fit, f, whatFits(t, &fit, f, a, b), c)
					right := whatFits(t, &fit, f, a, whatFits(t, &fit, f, b, c))
					if !fit {
						continue
					}
					if tried++; !same(left, right) {
						t.Fatalf("%s of %s, %s, %s: %s and %s", name, brief(a), brief(b), brief(c), brief(left), brief(right))
					}
				}
			}
		}
		if tried < 3000 {
			t.Errorf("%s: only %d triples fit", name, tried)
		}
	}
}

// P4.4: Mul is distributive over Add, where the results fit.
func TestDistributive(t *testing.T) {
	tried := 0
	for _, a := range few() {
		for _, b := range few() {
			for _, c := range few() {
				fit := true
				together := whatFits(t, &fit, ratio.Mul, whatFits(t, &fit, ratio.Add, a, b), c)
				parts := whatFits(t, &fit, ratio.Add, whatFits(t, &fit, ratio.Mul, a, c), whatFits(t, &fit, ratio.Mul, b, c))
				if !fit {
					continue
				}
				if tried++; !same(together, parts) {
					t.Fatalf("(%s + %s) times %s: %s and %s", brief(a), brief(b), brief(c), brief(together), brief(parts))
				}
			}
		}
	}
	if tried < 3000 {
		t.Errorf("only %d triples fit", tried)
	}
}

// P4.4: a quotient times its divisor is the dividend, where the results fit.
func TestQuotientTimesDivisor(t *testing.T) {
	tried := 0
	for _, x := range fractions() {
		for _, y := range short() {
			if y.Sign() == 0 {
				continue
			}
			fit := true
			quotient := whatFits(t, &fit, ratio.Div, rat(x), rat(y))
			if back := whatFits(t, &fit, ratio.Mul, quotient, rat(y)); fit {
				tried++
				if !same(back, rat(x)) {
					t.Fatalf("%s / %s = %s, which times the divisor is %s", brief(rat(x)), brief(rat(y)), brief(quotient), brief(back))
				}
			}
		}
	}
	if tried < 4000 {
		t.Errorf("only %d quotients fit", tried)
	}
}

// order is what Cmp tells of two valid fractions.
func order(t *testing.T, a, b ratio.Rat) int {
	t.Helper()
	c, err := ratio.Cmp(a, b)
	if c < -1 || c > 1 || err != api.OK {
		t.Fatalf("Cmp(%s, %s) = %d, %d", brief(a), brief(b), c, err)
	}
	return c
}

// P4.5: of two fractions one is less than the other, or they are equal, and the same in both
// directions.
func TestOrderIsTotal(t *testing.T) {
	for _, x := range fractions() {
		for _, y := range short() {
			a, b := rat(x), rat(y)
			there, back := order(t, a, b), order(t, b, a)
			if there != -back || (there == 0) != same(a, b) {
				t.Fatalf("%s and %s: %d and %d", brief(a), brief(b), there, back)
			}
		}
	}
}

// P4.5: what is less than something less is less, and addition preserves the order.
func TestOrderIsKept(t *testing.T) {
	tried := 0
	for _, a := range few() {
		for _, b := range few() {
			ab := order(t, a, b)
			for _, c := range few() {
				if ab < 0 && order(t, b, c) < 0 && order(t, a, c) >= 0 {
					t.Fatalf("%s, %s, %s ascend, but the last is not above the first", brief(a), brief(b), brief(c))
				}
				fit := true
				left, right := whatFits(t, &fit, ratio.Add, a, c), whatFits(t, &fit, ratio.Add, b, c)
				if !fit {
					continue
				}
				if tried++; order(t, left, right) != ab {
					t.Fatalf("%s and %s, both with %s: %d", brief(a), brief(b), brief(c), order(t, left, right))
				}
			}
		}
	}
	if tried < 3000 {
		t.Errorf("only %d triples fit", tried)
	}
}

// asFraction is n / 1, for an integer that fits.
func asFraction(t *testing.T, n signed.Int, err api.Errno) ratio.Rat {
	t.Helper()
	if err != api.OK || !signed.Right(n) {
		t.Fatalf("rounded to %s, %d", briefInt(n), err)
	}
	return ratio.Rat{Num: n, Den: signed.Of(1)}
}

// P4.6: Floor is at most a, and more than a less 1.
func TestFloorIsNear(t *testing.T) {
	for _, x := range fractions() {
		a := rat(x)
		n, err := ratio.Floor(a)
		floor := asFraction(t, n, err)
		if order(t, floor, a) > 0 {
			t.Errorf("Floor(%s) = %s", brief(a), briefInt(n))
		}
		less, err := ratio.Add(a, ratio.Of(-1))
		if err == api.OK && order(t, less, floor) >= 0 {
			t.Errorf("Floor(%s) = %s, which is not above a - 1", brief(a), briefInt(n))
		}
	}
}

// P4.6: Ceil is the opposite of the Floor of the opposite.
func TestCeilIsTheOtherFloor(t *testing.T) {
	for _, x := range fractions() {
		a := rat(x)
		opposite, err := ratio.Neg(a)
		if err != api.OK {
			t.Fatalf("Neg(%s): %d", brief(a), err)
		}
		n, err := ratio.Floor(opposite)
		want, wantErr := ratio.Neg(asFraction(t, n, err))
		n, err = ratio.Ceil(a)
		if ceil := asFraction(t, n, err); !same(ceil, want) || wantErr != api.OK {
			t.Errorf("Ceil(%s) = %s; want %s", brief(a), brief(ceil), brief(want))
		}
	}
}

// spoil writes to the digits of a number, and to the memory behind their end.
func spoil(n signed.Int) {
	l := n.Mag[:cap(n.Mag)]
	for i := range l {
		l[i] ^= 0x5a5a5a5a
	}
}

// guarded is a number with memory behind its digits, which a call must not touch.
func guarded(n signed.Int) signed.Int {
	behind := append(slices.Clone(n.Mag), 77, 78)
	return signed.Int{Neg: n.Neg, Mag: behind[:len(n.Mag)]}
}

// expectKept asks whether an argument, and the memory behind it, is what guarded has made.
func expectKept(t *testing.T, name string, n, want signed.Int) {
	t.Helper()
	if !sameInt(n, want) || !slices.Equal(n.Mag[len(n.Mag):len(n.Mag)+2], []uint32{77, 78}) {
		t.Fatalf("%s changed %s to %s", name, briefInt(want), briefInt(n))
	}
}

// calls are all that work on fractions, as calls of two of them.
func calls() map[string]operation {
	return map[string]operation{
		"Add": ratio.Add, "Mul": ratio.Mul, "Div": ratio.Div,
		"Neg":   func(a, _ ratio.Rat) (ratio.Rat, api.Errno) { return ratio.Neg(a) },
		"Make":  func(a, b ratio.Rat) (ratio.Rat, api.Errno) { return ratio.Make(a.Num, b.Num) },
		"Right": func(a, _ ratio.Rat) (ratio.Rat, api.Errno) { ratio.Right(a); return ratio.Rat{}, api.OK },
		"Text":  func(a, _ ratio.Rat) (ratio.Rat, api.Errno) { _, err := ratio.Text(a); return ratio.Rat{}, err },
		"Cmp": func(a, b ratio.Rat) (ratio.Rat, api.Errno) {
			order, err := ratio.Cmp(a, b)
			return ratio.Of(int64(order)), err
		},
		"Floor": func(a, _ ratio.Rat) (ratio.Rat, api.Errno) { n, err := ratio.Floor(a); return ratio.Rat{Num: n}, err },
		"Ceil":  func(a, _ ratio.Rat) (ratio.Rat, api.Errno) { n, err := ratio.Ceil(a); return ratio.Rat{Num: n}, err },
	}
}

// R4 and R6: the calls leave their arguments as they are, keep nothing, and hand out memory of
// their own.
func TestResultsAreNew(t *testing.T) {
	for name, f := range calls() {
		for _, x := range few() {
			for _, y := range few() {
				a := ratio.Rat{Num: guarded(x.Num), Den: guarded(x.Den)}
				b := ratio.Rat{Num: guarded(y.Num), Den: guarded(y.Den)}
				first, err := f(a, b)
				want := copied(first)
				spoil(first.Num)
				if !sameInt(first.Den, want.Den) {
					t.Fatalf("%s: Num and Den share memory", name)
				}
				spoil(first.Den)
				expectKept(t, name, a.Num, x.Num)
				expectKept(t, name, a.Den, x.Den)
				expectKept(t, name, b.Num, y.Num)
				expectKept(t, name, b.Den, y.Den)
				expectAgain(t, name, f, a, b, want, err)
			}
		}
	}
	spoil(ratio.Of(-5).Num)
	spoil(ratio.Of(-5).Den)
	if a := ratio.Of(-5); !same(a, small(-5, 1)) {
		t.Errorf("Of(-5) = %s the second time", brief(a))
	}
}

// copied is a copy in memory of its own.
func copied(a ratio.Rat) ratio.Rat {
	return ratio.Rat{
		Num: signed.Int{Neg: a.Num.Neg, Mag: slices.Clone(a.Num.Mag)},
		Den: signed.Int{Neg: a.Den.Neg, Mag: slices.Clone(a.Den.Mag)},
	}
}
