package nat_test

import (
	"math/big"
	"slices"
	"testing"

	"touchstone/api"
	"touchstone/nat"
)

// fromText is the number of decimal digits, by exact arithmetic.
func fromText(s string) digits {
	n, _ := new(big.Int).SetString(s, 10)
	return asDigits(n)
}

// P2.4: Add and Mul are commutative, and refuse alike.
func TestCommutative(t *testing.T) {
	for _, a := range numbers() {
		for _, b := range numbers() {
			sum, err := nat.Add(a, b)
			expect(t, "Add", nat.Add, b, a, sum, err)
			product, err := nat.Mul(a, b)
			expect(t, "Mul", nat.Mul, b, a, product, err)
		}
	}
}

// P2.4: Mul is distributive over Add, where the results fit.
func TestDistributive(t *testing.T) {
	tried := 0
	l := append(short(1), digits{full, full}, digits{1, 1}, power(2), mixed(5, 1), mixed(64, 2), repeated(64, full), power(100), repeated(127, full), mixed(128, 9))
	for _, a := range l {
		for _, b := range l {
			for _, c := range l {
				sum, sumErr := nat.Add(a, b)
				first, firstErr := nat.Mul(a, c)
				second, secondErr := nat.Mul(b, c)
				if sumErr != api.OK || firstErr != api.OK || secondErr != api.OK {
					continue
				}
				want, err := nat.Add(first, second)
				expect(t, "Mul", nat.Mul, sum, c, want, err)
				tried++
			}
		}
	}
	if tried < 1000 {
		t.Errorf("only %d sums were multiplied", tried)
	}
}

// P2.5: Sub takes back what Add has added.
func TestSubTakesBack(t *testing.T) {
	for _, a := range numbers() {
		for _, b := range numbers() {
			if sum, err := nat.Add(a, b); err == api.OK {
				expect(t, "Sub", nat.Sub, sum, b, a, api.OK)
			}
		}
	}
}

// P2.5: a is the quotient times b and the remainder, which is less than b.
func TestDivModComesBack(t *testing.T) {
	for _, a := range numbers() {
		for _, b := range numbers() {
			if len(b) == 0 {
				continue
			}
			q, r, err := nat.DivMod(a, b)
			if err != api.OK || !nat.Right(q) || !nat.Right(r) {
				t.Fatalf("DivMod(%v, %v) = %v, %v, %d", brief(a), brief(b), brief(q), brief(r), err)
			}
			if c, err := nat.Cmp(r, b); c != -1 || err != api.OK {
				t.Fatalf("DivMod(%v, %v) leaves %v", brief(a), brief(b), brief(r))
			}
			product, err := nat.Mul(q, b)
			if err != api.OK {
				t.Fatalf("the quotient of %v and %v is too great: %v", brief(a), brief(b), brief(q))
			}
			expect(t, "Add", nat.Add, product, r, a, api.OK)
		}
	}
}

// spoil writes to a result, and to the memory behind its end.
func spoil(l digits) {
	l = l[:cap(l)]
	for i := range l {
		l[i] ^= 0x5a5a5a5a
	}
}

// R4 and R6: the calls leave their arguments and the memory behind them as they are, keep
// nothing, and hand out memory of their own, two results in two places.
func TestResultsAreNew(t *testing.T) {
	l := append(numbers(), digits{1, 2, 3})
	for i, n := range l {
		behind := append(slices.Clone(n), 77, 78)
		l[i] = behind[:len(n)]
	}
	for _, a := range l {
		for _, b := range l {
			before, beforeB := slices.Clone(a[:len(a)+2]), slices.Clone(b[:len(b)+2])
			for _, f := range []operation{nat.Add, nat.Sub, nat.Mul} {
				first, err := f(a, b)
				want := slices.Clone(first)
				spoil(first)
				again, errAgain := f(a, b)
				if !slices.Equal(again, want) || errAgain != err {
					t.Fatalf("of %v and %v: %v, %d, and then %v, %d", brief(a), brief(b), brief(want), err, brief(again), errAgain)
				}
			}
			q, r, _ := nat.DivMod(a, b)
			wantQ, wantR := slices.Clone(q), slices.Clone(r)
			spoil(q)
			if !slices.Equal(r, wantR) {
				t.Fatalf("DivMod(%v, %v): both results share memory", brief(a), brief(b))
			}
			spoil(r)
			q, r, _ = nat.DivMod(a, b)
			if !slices.Equal(q, wantQ) || !slices.Equal(r, wantR) {
				t.Fatalf("DivMod(%v, %v) = %v, %v, and then %v, %v", brief(a), brief(b), brief(wantQ), brief(wantR), brief(q), brief(r))
			}
			if !slices.Equal(before, a[:len(a)+2]) || !slices.Equal(beforeB, b[:len(b)+2]) {
				t.Fatalf("an argument of %v and %v was changed", brief(before), brief(beforeB))
			}
		}
	}
}

// R4 and R6 for the calls of one argument.
func TestSingleArgumentsStay(t *testing.T) {
	for _, a := range numbers() {
		before := slices.Clone(a)
		nat.Right(a)
		nat.Uint(a)
		first, _ := nat.Text(a)
		if again, _ := nat.Text(a); again != first {
			t.Errorf("Text(%v) = %q, and then %q", brief(before), first, again)
		}
		if !slices.Equal(a, before) {
			t.Errorf("%v was changed to %v", brief(before), brief(a))
		}
	}
	spoil(nat.Of(1<<32 + 5))
	if l := nat.Of(1<<32 + 5); !slices.Equal(l, digits{5, 1}) {
		t.Errorf("Of(2^32 + 5) = %v the second time", l)
	}
	parsed, _ := nat.Parse("4294967301")
	spoil(parsed)
	expectParsed(t, "4294967301", digits{5, 1}, api.OK)
}
