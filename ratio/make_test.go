package ratio_test

import (
	"math"
	"math/big"
	"testing"

	"touchstone/api"
	"touchstone/ratio"
	"touchstone/signed"
)

// expectMade asks for the fraction of two numbers, or for ErrBig if it is too long.
func expectMade(t *testing.T, num, den *big.Int) {
	t.Helper()
	want, wantErr := owed(over(num, den))
	expectMaking(t, of(num), of(den), want, wantErr)
}

func expectMaking(t *testing.T, num, den signed.Int, want ratio.Rat, wantErr api.Errno) {
	t.Helper()
	if a, err := ratio.Make(num, den); !same(a, want) || err != wantErr {
		t.Errorf("Make(%s, %s) = %s, %d; want %s, %d", briefInt(num), briefInt(den), brief(a), err, brief(want), wantErr)
	}
}

// P4.2: all pairs of signs, 0, and numbers with and without a divisor in common.
func TestMake(t *testing.T) {
	for _, c := range []struct{ num, den, wantNum, wantDen int64 }{
		{6, -4, -3, 2},
		{6, 4, 3, 2},
		{-6, 4, -3, 2},
		{-6, -4, 3, 2},
		{0, 5, 0, 1},
		{0, -5, 0, 1},
		{0, 1, 0, 1},
		{0, -1, 0, 1},
		{1, 1, 1, 1},
		{1, -1, -1, 1},
		{-1, -1, 1, 1},
		{7, 7, 1, 1},
		{7, -7, -1, 1},
		{8, 9, 8, 9},
		{8, -9, -8, 9},
		{2, 4, 1, 2},
		{12, 4, 3, 1},
		{4, 12, 1, 3},
		{-360, 7 * 360, -1, 7},
		{3 << 40, -9 << 33, -1 << 7, 3},
		{math.MaxInt64, -1, -math.MaxInt64, 1},
		{math.MinInt64, 2, -1 << 62, 1},
		{math.MinInt64, math.MinInt64, 1, 1},
		{1 << 62, math.MinInt64, -1, 2},
		{math.MaxInt64, math.MaxInt64, 1, 1},
	} {
		expectMaking(t, signed.Of(c.num), signed.Of(c.den), small(c.wantNum, c.wantDen), api.OK)
	}
	justAbove := signed.Int{Mag: []uint32{0, 1 << 31}}
	expectMaking(t, signed.Of(math.MinInt64), signed.Of(-1), ratio.Rat{Num: justAbove, Den: signed.Of(1)}, api.OK)
	expectMaking(t, signed.Of(1), signed.Of(math.MinInt64), ratio.Rat{Num: signed.Of(-1), Den: justAbove}, api.OK)
	expectMaking(t, signed.Int{Mag: []uint32{}}, signed.Of(-3), small(0, 1), api.OK)
}

// P4.2, by exact arithmetic.
func TestMakeIsExact(t *testing.T) {
	var numbers []*big.Int
	for n := int64(-12); n <= 12; n++ {
		numbers = append(numbers, big.NewInt(n))
	}
	for _, n := range []*big.Int{power(1, -1), power(1, 0), power(2, 0), mixed(2, 1), mixed(9, 2), most(), least(), above(), power(128, 0), mixed(200, 3), power(256, -1)} {
		numbers = append(numbers, n, opposite(n), product(big.NewInt(4), new(big.Int).Rsh(n, 2)))
	}
	for _, num := range numbers {
		for _, den := range numbers {
			if den.Sign() != 0 {
				expectMade(t, num, den)
			}
		}
	}
}

// P4.2: Num and Den of 64 digits and of 65, one of them or both.
func TestMakeOfManyDigits(t *testing.T) {
	one, three := big.NewInt(1), big.NewInt(3)
	for _, c := range []struct{ num, den *big.Int }{
		{most(), one}, {opposite(most()), one}, {most(), big.NewInt(-1)}, {one, most()}, {one, opposite(most())}, {least(), most()}, {most(), least()}, {power(maxDigits, -2), most()},
	} {
		expectMaking(t, of(c.num), of(c.den), rat(over(c.num, c.den)), api.OK)
	}
	for _, c := range []struct{ num, den *big.Int }{
		{above(), one}, {opposite(above()), one}, {above(), big.NewInt(-1)}, {one, above()}, {one, opposite(above())}, {above(), three}, {three, above()},
		{above(), most()}, {most(), above()}, {above(), power(maxDigits, 1)}, {power(65, -1), one}, {one, power(65, -1)},
		{product(three, above()), three}, {three, product(three, above())}, {power(256, -1), one}, {one, power(256, -1)}, {power(256, -1), power(255, 0)},
	} {
		expectMaking(t, of(c.num), of(c.den), ratio.Rat{}, api.ErrBig)
	}
}

// P4.2: numbers of up to 256 digits whose fraction has no more than 64.
func TestMakeOfWhatFitsInLowestTerms(t *testing.T) {
	longest := power(256, -1)
	common := mixed(192, 5)
	for _, c := range []struct{ num, den, wantNum, wantDen *big.Int }{
		{above(), big.NewInt(2), new(big.Int).Rsh(above(), 1), big.NewInt(1)},
		{big.NewInt(2), above(), big.NewInt(1), new(big.Int).Rsh(above(), 1)},
		{big.NewInt(-2), opposite(above()), big.NewInt(1), new(big.Int).Rsh(above(), 1)},
		{above(), above(), big.NewInt(1), big.NewInt(1)},
		{longest, longest, big.NewInt(1), big.NewInt(1)},
		{longest, opposite(longest), big.NewInt(-1), big.NewInt(1)},
		{big.NewInt(0), longest, big.NewInt(0), big.NewInt(1)},
		{big.NewInt(0), opposite(longest), big.NewInt(0), big.NewInt(1)},
		{power(255, 0), opposite(power(254, 0)), opposite(power(1, 0)), big.NewInt(1)},
		{power(192, 0), power(255, 0), big.NewInt(1), power(63, 0)},
		{product(most(), common), product(least(), common), most(), least()},
		{product(opposite(least()), common), product(most(), common), opposite(least()), most()},
	} {
		want := ratio.Rat{Num: of(c.wantNum), Den: of(c.wantDen)}
		expectMaking(t, of(c.num), of(c.den), want, api.OK)
	}
}

// P4.2: by 0, and numbers that are not valid, beside numbers that would make the fraction too long.
func TestMakeOfWrongNumbers(t *testing.T) {
	good := []signed.Int{{}, signed.Of(1), signed.Of(-6), of(most()), of(above()), of(power(256, -1))}
	for _, n := range good {
		expectMaking(t, n, signed.Int{}, ratio.Rat{}, api.ErrArg)
		expectMaking(t, n, signed.Int{Mag: []uint32{}}, ratio.Rat{}, api.ErrArg)
	}
	for _, n := range wrongInts() {
		for _, other := range good {
			expectMaking(t, n, other, ratio.Rat{}, api.ErrArg)
			expectMaking(t, other, n, ratio.Rat{}, api.ErrArg)
		}
		for _, other := range wrongInts() {
			expectMaking(t, n, other, ratio.Rat{}, api.ErrArg)
		}
	}
}
