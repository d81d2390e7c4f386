package ratio_test

import (
	"math/big"
	"strconv"
	"strings"
	"testing"

	"touchstone/api"
	"touchstone/ratio"
	"touchstone/signed"
)

// operation is one of Add, Mul and Div.
type operation func(a, b ratio.Rat) (ratio.Rat, api.Errno)

// expect asks for an exact result, or for ErrBig if it is too long.
func expect(t *testing.T, name string, f operation, x, y, exact *big.Rat) {
	t.Helper()
	want, wantErr := owed(exact)
	expectAgain(t, name, f, rat(x), rat(y), want, wantErr)
}

func expectAgain(t *testing.T, name string, f operation, a, b, want ratio.Rat, wantErr api.Errno) {
	t.Helper()
	if c, err := f(a, b); !same(c, want) || err != wantErr {
		t.Fatalf("%s(%s, %s) = %s, %d; want %s, %d", name, brief(a), brief(b), brief(c), err, brief(want), wantErr)
	}
}

// fraction reads an exact fraction.
func fraction(s string) *big.Rat {
	r, _ := new(big.Rat).SetString(s)
	return r
}

// P4.3 (Cmp, Neg, Add, Mul, Div): ordinary fractions, 0, and all pairs of signs.
func TestCalls(t *testing.T) {
	for _, c := range []struct {
		a, b, neg, sum, product, quotient string
		order                             int
	}{
		{"1/2", "1/3", "-1/2", "5/6", "1/6", "3/2", 1},
		{"-1/2", "1/3", "1/2", "-1/6", "-1/6", "-3/2", -1},
		{"1/2", "-1/3", "-1/2", "1/6", "-1/6", "-3/2", 1},
		{"-1/2", "-1/3", "1/2", "-5/6", "1/6", "3/2", -1},
		{"1/2", "1/2", "-1/2", "1", "1/4", "1", 0},
		{"1/2", "-1/2", "-1/2", "0", "-1/4", "-1", 1},
		{"-3/2", "-3/2", "3/2", "-3", "9/4", "1", 0},
		{"0", "1/3", "0", "1/3", "0", "0", -1},
		{"0", "-1/3", "0", "-1/3", "0", "0", 1},
		{"7", "1", "-7", "8", "7", "7", 1},
		{"7", "-1", "-7", "6", "-7", "-7", 1},
		{"7", "-2/3", "-7", "19/3", "-14/3", "-21/2", 1},
		{"3/4", "5/6", "-3/4", "19/12", "5/8", "9/10", -1},
		{"1/6", "1/3", "-1/6", "1/2", "1/18", "1/2", -1},
		{"5/6", "2/3", "-5/6", "3/2", "5/9", "5/4", 1},
		{"2/3", "3/2", "-2/3", "13/6", "1", "4/9", -1},
		{"-2/3", "-3/2", "2/3", "-13/6", "1", "4/9", 1},
		{"1/4294967296", "1/4294967295", "-1/4294967296", "8589934591/18446744069414584320", "1/18446744069414584320", "4294967295/4294967296", -1},
		{"9223372036854775807", "-9223372036854775808", "-9223372036854775807", "-1", "-85070591730234615856620279821087277056", "-9223372036854775807/9223372036854775808", 1},
	} {
		a, b := fraction(c.a), fraction(c.b)
		expect(t, "Add", ratio.Add, a, b, fraction(c.sum))
		expect(t, "Mul", ratio.Mul, a, b, fraction(c.product))
		expect(t, "Div", ratio.Div, a, b, fraction(c.quotient))
		expectNeg(t, a, fraction(c.neg))
		expectOrder(t, a, b, c.order)
	}
}

func expectNeg(t *testing.T, x, want *big.Rat) {
	t.Helper()
	if a, err := ratio.Neg(rat(x)); !same(a, rat(want)) || err != api.OK {
		t.Fatalf("Neg(%s) = %s, %d", brief(rat(x)), brief(a), err)
	}
}

func expectOrder(t *testing.T, x, y *big.Rat, want int) {
	t.Helper()
	if order, err := ratio.Cmp(rat(x), rat(y)); order != want || err != api.OK {
		t.Fatalf("Cmp(%s, %s) = %d, %d; want %d", brief(rat(x)), brief(rat(y)), order, err, want)
	}
}

// expectAll holds all calls for two fractions against exact arithmetic.
func expectAll(t *testing.T, x, y *big.Rat) {
	t.Helper()
	expectOrder(t, x, y, x.Cmp(y))
	expect(t, "Add", ratio.Add, x, y, new(big.Rat).Add(x, y))
	expect(t, "Mul", ratio.Mul, x, y, new(big.Rat).Mul(x, y))
	if y.Sign() != 0 {
		expect(t, "Div", ratio.Div, x, y, new(big.Rat).Quo(x, y))
	}
}

// P4.3, by exact arithmetic, for all pairs of short fractions, and for long ones with each other
// and with some of the short ones.
func TestCallsAreExact(t *testing.T) {
	for _, x := range fractions() {
		expectNeg(t, x, new(big.Rat).Neg(x))
	}
	for _, x := range short() {
		for _, y := range short() {
			expectAll(t, x, y)
		}
	}
	few := []*big.Rat{new(big.Rat), big.NewRat(1, 1), big.NewRat(-3, 2), whole(power(1, 0)), over(mixed(2, 1), mixed(2, 2))}
	for _, x := range long() {
		for _, y := range append(long(), few...) {
			expectAll(t, x, y)
		}
		for _, y := range few {
			expectAll(t, y, x)
		}
	}
}

// P4.3 (Cmp): in ascending order, so that neither Num nor Den alone decides.
func TestCmp(t *testing.T) {
	ascending := []*big.Rat{
		whole(opposite(most())), over(opposite(most()), big.NewInt(2)), fraction("-3"), fraction("-5/2"), fraction("-2"), fraction("-7/4"), fraction("-3/2"), fraction("-1"),
		fraction("-1/3"), over(big.NewInt(-1), most()), new(big.Rat), over(big.NewInt(1), most()), over(big.NewInt(1), least()), fraction("1/1000"), fraction("1/3"), fraction("2/5"),
		fraction("1/2"), fraction("4/7"), over(power(64, -3), power(64, -2)), over(power(64, -2), most()), fraction("1"), over(most(), power(64, -2)), fraction("3/2"), fraction("7/3"), whole(least()), whole(most()),
	}
	for i, x := range ascending {
		for j, y := range ascending {
			expectOrder(t, x, y, big.NewInt(int64(i)).Cmp(big.NewInt(int64(j))))
		}
	}
}

// edge is a pair of fractions and what a call owes for them, nil for ErrBig.
type edge struct {
	a, b, want *big.Rat
}

func expectEdges(t *testing.T, name string, f operation, edges []edge) {
	t.Helper()
	for _, c := range edges {
		if c.want == nil {
			expectAgain(t, name, f, rat(c.a), rat(c.b), ratio.Rat{}, api.ErrBig)
		} else {
			expectAgain(t, name, f, rat(c.a), rat(c.b), rat(c.want), api.OK)
		}
	}
}

// P4.3 (Add): sums of 64 digits and of 65, and sums that fit only in lowest terms.
func TestAddOfManyDigits(t *testing.T) {
	one, two := big.NewInt(1), big.NewInt(2)
	half := over(one, two)
	minus := big.NewRat(-1, 1)
	below := power(maxDigits, -2)
	under, beyond, further := power(32, -1), power(32, 1), power(32, 3)
	expectEdges(t, "Add", ratio.Add, []edge{
		{whole(below), big.NewRat(1, 1), whole(most())},
		{whole(most()), big.NewRat(1, 1), nil},
		{whole(opposite(below)), minus, whole(opposite(most()))},
		{whole(opposite(most())), minus, nil},
		{whole(most()), minus, whole(below)},
		{whole(most()), whole(most()), nil},
		{whole(most()), whole(opposite(most())), new(big.Rat)},
		{whole(most()), half, nil},
		{over(one, most()), half, nil},
		{over(one, most()), over(big.NewInt(-1), most()), new(big.Rat)},
		{over(one, least()), half, over(new(big.Int).Add(new(big.Int).Rsh(least(), 1), one), least())},
		{over(most(), two), half, whole(new(big.Int).Rsh(above(), 1))},
		{over(most(), two), over(most(), two), whole(most())},
		{over(below, most()), over(one, most()), big.NewRat(1, 1)},
		{over(one, under), over(one, beyond), over(product(two, power(32, 0)), most())},
		{over(one, beyond), over(one, further), nil},
		{over(most(), least()), over(one, least()), whole(power(1, 0))},
	})
}

// P4.3 (Mul): products of 64 digits and of 65, and products that fit only in lowest terms.
func TestMulOfManyDigits(t *testing.T) {
	one, two := big.NewInt(1), big.NewInt(2)
	under, even, beyond := power(32, -1), power(32, 0), power(32, 1)
	expectEdges(t, "Mul", ratio.Mul, []edge{
		{whole(under), whole(beyond), whole(most())},
		{whole(opposite(under)), whole(beyond), whole(opposite(most()))},
		{whole(even), whole(even), nil},
		{whole(opposite(even)), whole(even), nil},
		{over(one, under), over(one, beyond), over(one, most())},
		{over(one, even), over(one, even), nil},
		{over(one, even), over(big.NewInt(-1), even), nil},
		{over(under, even), over(beyond, power(31, 0)), over(most(), least())},
		{whole(most()), big.NewRat(2, 1), nil},
		{over(most(), two), big.NewRat(4, 1), nil},
		{over(most(), two), big.NewRat(2, 1), whole(most())},
		{over(one, most()), big.NewRat(1, 2), nil},
		{over(two, most()), big.NewRat(1, 2), over(one, most())},
		{over(most(), least()), over(least(), most()), big.NewRat(1, 1)},
		{over(most(), least()), over(opposite(least()), most()), big.NewRat(-1, 1)},
		{whole(most()), whole(most()), nil},
		{whole(most()), over(one, most()), big.NewRat(1, 1)},
		{whole(most()), new(big.Rat), new(big.Rat)},
	})
}

// P4.3 (Div): quotients of 64 digits and of 65, and quotients that fit only in lowest terms; by a
// negative fraction.
func TestDivOfManyDigits(t *testing.T) {
	one, two := big.NewInt(1), big.NewInt(2)
	under, even, beyond := power(32, -1), power(32, 0), power(32, 1)
	expectEdges(t, "Div", ratio.Div, []edge{
		{whole(most()), big.NewRat(1, 2), nil},
		{whole(most()), big.NewRat(-1, 2), nil},
		{whole(most()), big.NewRat(2, 1), over(most(), two)},
		{whole(most()), big.NewRat(-2, 1), over(opposite(most()), two)},
		{whole(most()), big.NewRat(-1, 1), whole(opposite(most()))},
		{big.NewRat(1, 1), whole(most()), over(one, most())},
		{big.NewRat(1, 1), whole(opposite(most())), over(big.NewInt(-1), most())},
		{big.NewRat(1, 2), whole(most()), nil},
		{big.NewRat(-1, 2), whole(opposite(most())), nil},
		{whole(under), over(one, beyond), whole(most())},
		{whole(even), over(big.NewInt(-1), even), nil},
		{over(one, under), whole(opposite(beyond)), over(big.NewInt(-1), most())},
		{over(one, even), whole(even), nil},
		{whole(most()), whole(most()), big.NewRat(1, 1)},
		{whole(most()), whole(opposite(most())), big.NewRat(-1, 1)},
		{over(least(), most()), over(least(), most()), big.NewRat(1, 1)},
		{over(least(), most()), over(opposite(most()), least()), nil},
		{new(big.Rat), whole(opposite(most())), new(big.Rat)},
		{whole(least()), whole(most()), over(least(), most())},
	})
}

// P4.3 (Div): by 0.
func TestDivByZero(t *testing.T) {
	for _, x := range fractions() {
		expectAgain(t, "Div", ratio.Div, rat(x), small(0, 1), ratio.Rat{}, api.ErrArg)
		expectAgain(t, "Div", ratio.Div, rat(x), ratio.Rat{Num: signed.Int{Mag: []uint32{}}, Den: signed.Of(1)}, ratio.Rat{}, api.ErrArg)
	}
}

// expectRounded asks for a Floor and a Ceil.
func expectRounded(t *testing.T, x *big.Rat, floor, ceil *big.Int) {
	t.Helper()
	if n, err := ratio.Floor(rat(x)); !sameInt(n, of(floor)) || err != api.OK {
		t.Errorf("Floor(%s) = %s, %d; want %s", brief(rat(x)), briefInt(n), err, briefInt(of(floor)))
	}
	if n, err := ratio.Ceil(rat(x)); !sameInt(n, of(ceil)) || err != api.OK {
		t.Errorf("Ceil(%s) = %s, %d; want %s", brief(rat(x)), briefInt(n), err, briefInt(of(ceil)))
	}
}

// P4.3 (Floor, Ceil): whole, positive and negative fractions.
func TestRounded(t *testing.T) {
	for s, want := range map[string][2]int64{
		"0": {0, 0}, "4": {4, 4}, "-4": {-4, -4}, "1": {1, 1}, "-1": {-1, -1},
		"3/2": {1, 2}, "-3/2": {-2, -1}, "1/2": {0, 1}, "-1/2": {-1, 0}, "1/3": {0, 1}, "-1/3": {-1, 0}, "2/3": {0, 1}, "-2/3": {-1, 0},
		"7/3": {2, 3}, "-7/3": {-3, -2}, "8/3": {2, 3}, "-8/3": {-3, -2}, "99/100": {0, 1}, "-101/100": {-2, -1},
		"4294967295/2": {2147483647, 2147483648}, "-18446744073709551615/2": {-9223372036854775808, -9223372036854775807},
	} {
		expectRounded(t, fraction(s), big.NewInt(want[0]), big.NewInt(want[1]))
	}
	minus, zero, one := big.NewInt(-1), big.NewInt(0), big.NewInt(1)
	half, greater := new(big.Int).Rsh(most(), 1), new(big.Int).Rsh(above(), 1)
	expectRounded(t, whole(most()), most(), most())
	expectRounded(t, whole(opposite(most())), opposite(most()), opposite(most()))
	expectRounded(t, over(most(), big.NewInt(2)), half, greater)
	expectRounded(t, over(opposite(most()), big.NewInt(2)), opposite(greater), opposite(half))
	expectRounded(t, over(one, most()), zero, one)
	expectRounded(t, over(minus, most()), minus, zero)
	expectRounded(t, over(power(64, -2), most()), zero, one)
	expectRounded(t, over(most(), power(64, -2)), one, big.NewInt(2))
	expectRounded(t, over(most(), least()), power(1, -1), power(1, 0))
}

// P4.3 (Floor, Ceil), by exact arithmetic.
func TestRoundedIsExact(t *testing.T) {
	for _, x := range fractions() {
		floor := new(big.Int).Div(x.Num(), x.Denom())
		ceil := new(big.Int)
		if ceil.Set(floor); !x.IsInt() {
			ceil.Add(ceil, big.NewInt(1))
		}
		expectRounded(t, x, floor, ceil)
	}
}

// P4.3 (Text): with a Den of 1 and with another one.
func TestText(t *testing.T) {
	for s, a := range map[string]ratio.Rat{
		"0": small(0, 1), "4": small(4, 1), "-4": small(-4, 1), "1": small(1, 1), "-3/2": small(-3, 2), "3/2": small(3, 2), "1/10": small(1, 10), "-1/11": small(-1, 11), "10/3": small(10, 3),
		"9223372036854775807": ratio.Of(1<<63 - 1), "-9223372036854775808": ratio.Of(-1 << 63),
		"1/18446744073709551616":  {Num: signed.Of(1), Den: of(power(2, 0))},
		"1/4294967297":            {Num: signed.Of(1), Den: of(power(1, 1))},
		"-18446744073709551617/2": {Num: of(opposite(power(2, 1))), Den: signed.Of(2)},
	} {
		if text, err := ratio.Text(a); text != s || err != api.OK {
			t.Errorf("Text(%s) = %q, %d; want %q", brief(a), text, err, s)
		}
	}
	for _, x := range fractions() {
		want := strings.TrimSuffix(x.String(), "/1")
		if text, err := ratio.Text(rat(x)); text != want || err != api.OK {
			t.Errorf("Text(%s) = %.60q, %d; want %.60q", brief(rat(x)), text, err, want)
		}
	}
}

// P4.3: fractions that are not valid, alone and beside valid ones, even where the result would be
// too long, or would fit.
func TestWrongFractions(t *testing.T) {
	good := []ratio.Rat{small(0, 1), small(1, 1), small(-1, 1), small(-3, 2), rat(whole(most())), rat(over(big.NewInt(1), most()))}
	for name, a := range wrong() {
		for i, b := range good {
			expectRefused(t, name+" first, with "+strconv.Itoa(i), a, b)
			expectRefused(t, name+" second, with "+strconv.Itoa(i), b, a)
		}
		for other, b := range wrong() {
			expectRefused(t, name+" with "+other, a, b)
		}
		if c, err := ratio.Neg(a); !same(c, ratio.Rat{}) || err != api.ErrArg {
			t.Errorf("Neg of %s = %s, %d", name, brief(c), err)
		}
		if n, err := ratio.Floor(a); !sameInt(n, signed.Int{}) || err != api.ErrArg {
			t.Errorf("Floor of %s = %s, %d", name, briefInt(n), err)
		}
		if n, err := ratio.Ceil(a); !sameInt(n, signed.Int{}) || err != api.ErrArg {
			t.Errorf("Ceil of %s = %s, %d", name, briefInt(n), err)
		}
		if text, err := ratio.Text(a); text != "" || err != api.ErrArg {
			t.Errorf("Text of %s = %q, %d", name, text, err)
		}
	}
}

// expectRefused asks all calls of two fractions for ErrArg, and for zero values beside it.
func expectRefused(t *testing.T, which string, a, b ratio.Rat) {
	t.Helper()
	for name, f := range map[string]operation{"Add": ratio.Add, "Mul": ratio.Mul, "Div": ratio.Div} {
		if c, err := f(a, b); !same(c, ratio.Rat{}) || err != api.ErrArg {
			t.Errorf("%s, %s: %s, %d", name, which, brief(c), err)
		}
	}
	if order, err := ratio.Cmp(a, b); order != 0 || err != api.ErrArg {
		t.Errorf("Cmp, %s: %d, %d", which, order, err)
	}
}
