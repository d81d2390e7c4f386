package ratio_test

import (
	"encoding/binary"
	"math"
	"math/big"
	"slices"
	"testing"

	"touchstone/api"
	"touchstone/ratio"
	"touchstone/signed"
)

const (
	full      = math.MaxUint32
	maxDigits = 64
)

// of is the number of an exact one.
func of(n *big.Int) signed.Int {
	mag := make([]uint32, (n.BitLen()+31)/32)
	bytes := n.FillBytes(make([]byte, 4*len(mag)))
	for i := range mag {
		mag[i] = binary.BigEndian.Uint32(bytes[len(bytes)-4*(i+1):])
	}
	return signed.Int{Neg: n.Sign() < 0, Mag: mag}
}

// rat is the fraction of an exact one.
func rat(r *big.Rat) ratio.Rat {
	return ratio.Rat{Num: of(r.Num()), Den: of(r.Denom())}
}

// small is the fraction of two numbers just as they are, in lowest terms or not.
func small(num, den int64) ratio.Rat {
	return ratio.Rat{Num: signed.Of(num), Den: signed.Of(den)}
}

// owed is what a call owes for an exact result.
func owed(r *big.Rat) (ratio.Rat, api.Errno) {
	if max(r.Num().BitLen(), r.Denom().BitLen()) > 32*maxDigits {
		return ratio.Rat{}, api.ErrBig
	}
	return rat(r), api.OK
}

func sameInt(a, b signed.Int) bool {
	return a.Neg == b.Neg && slices.Equal(a.Mag, b.Mag)
}

func same(a, b ratio.Rat) bool {
	return sameInt(a.Num, b.Num) && sameInt(a.Den, b.Den)
}

// power is 2^32 to the power of n, and some more.
func power(n int, more int64) *big.Int {
	p := new(big.Int).Lsh(big.NewInt(1), uint(32*n))
	return p.Add(p, big.NewInt(more))
}

// mixed is an odd number of n digits without any pattern.
func mixed(n int, seed uint64) *big.Int {
	bytes := make([]byte, 4*n)
	for i := range bytes {
		seed = seed*6364136223846793005 + 1442695040888963407
		bytes[i] = byte(seed>>56) | 1
	}
	return new(big.Int).SetBytes(bytes)
}

func product(x, y *big.Int) *big.Int {
	return new(big.Int).Mul(x, y)
}

func opposite(x *big.Int) *big.Int {
	return new(big.Int).Neg(x)
}

// over is the exact fraction of two exact numbers.
func over(num, den *big.Int) *big.Rat {
	return new(big.Rat).SetFrac(num, den)
}

func whole(n *big.Int) *big.Rat {
	return new(big.Rat).SetInt(n)
}

// most and least are the greatest and the least number of 64 digits; above has 65.
func most() *big.Int  { return power(maxDigits, -1) }
func least() *big.Int { return power(maxDigits-1, 0) }
func above() *big.Int { return power(maxDigits, 0) }

// bothSigns adds to a list the opposite of each of its fractions that are not 0.
func bothSigns(l []*big.Rat) []*big.Rat {
	for _, r := range l {
		if r.Sign() != 0 {
			l = append(l, new(big.Rat).Neg(r))
		}
	}
	return l
}

// short are fractions of a few digits, of both signs: 0, small ones, and those at the ends of 32
// and 64 bits.
func short() []*big.Rat {
	l := []*big.Rat{new(big.Rat)}
	for den := int64(1); den <= 4; den++ {
		for num := int64(1); num <= 6; num++ {
			if r := big.NewRat(num, den); r.Denom().Int64() == den {
				l = append(l, r)
			}
		}
	}
	l = append(l, big.NewRat(355, 113), big.NewRat(360, 7), big.NewRat(1, 1000000007))
	for _, n := range []*big.Int{power(1, -1), power(1, 0), power(1, 1), big.NewInt(math.MaxInt64), power(2, -1), power(2, 0)} {
		l = append(l, whole(n), over(big.NewInt(1), n), over(n, big.NewInt(7)))
	}
	return bothSigns(append(l, over(power(2, -1), power(1, 0)), over(mixed(2, 1), mixed(2, 2)), over(mixed(3, 3), mixed(1, 4))))
}

// long are fractions of up to 64 digits, of both signs.
func long() []*big.Rat {
	one, two := big.NewInt(1), big.NewInt(2)
	return bothSigns([]*big.Rat{
		whole(most()), whole(least()), over(one, most()), over(one, least()), over(most(), two), over(most(), least()),
		over(mixed(64, 1), mixed(64, 2)), over(mixed(32, 3), mixed(33, 4)), over(mixed(5, 5), mixed(6, 6)),
	})
}

func fractions() []*big.Rat {
	return append(short(), long()...)
}

// wrongInts are no valid numbers of signed.
func wrongInts() map[string]signed.Int {
	return map[string]signed.Int{
		"0 with Neg":             {Neg: true},
		"a digit of 0":           {Mag: []uint32{0}},
		"a last 0":               {Mag: []uint32{7, 0}},
		"a last 0 with Neg":      {Neg: true, Mag: []uint32{full, 5, 0}},
		"64 digits of 0":         {Mag: make([]uint32, 64)},
		"257 digits":             of(power(256, 0)),
		"257 digits with Neg":    of(opposite(power(256, 5))),
		"257 digits, the last 0": {Mag: append(of(power(255, 1)).Mag, 0)},
	}
}

// wrong are no valid fractions.
func wrong() map[string]ratio.Rat {
	one := signed.Of(1)
	m := map[string]ratio.Rat{
		"the zero value":             {},
		"no Den":                     {Num: one},
		"no Den, below 0":            {Num: signed.Of(-1)},
		"a Den of empty digits":      {Num: one, Den: signed.Int{Mag: []uint32{}}},
		"no Num, but a Den of 2":     small(0, 2),
		"no Num, a Den of -1":        small(0, -1),
		"1/-1":                       small(1, -1),
		"1/-2":                       small(1, -2),
		"-1/-2":                      small(-1, -2),
		"2/4":                        small(2, 4),
		"-2/4":                       small(-2, 4),
		"6/3":                        small(6, 3),
		"7/7":                        small(7, 7),
		"-15/25":                     small(-15, 25),
		"no Num, a Den of 64 digits": {Den: of(most())},
		"64 digits each, the same":   {Num: of(most()), Den: of(most())},
		"64 digits each, both even":  {Num: of(least()), Den: of(power(maxDigits, -2))},
		"64 digits each, in common":  {Num: of(product(mixed(32, 1), power(32, -1))), Den: of(product(mixed(32, 1), power(32, -2)))},
		"Num of 65 digits":           {Num: of(above()), Den: one},
		"Num of 65 digits, below 0":  {Num: of(opposite(above())), Den: signed.Of(3)},
		"Den of 65 digits":           {Num: one, Den: of(above())},
		"Den of 65 digits, no Num":   {Den: of(above())},
		"65 digits each":             {Num: of(above()), Den: of(power(maxDigits, 1))},
		"Num of 256 digits":          {Num: of(power(256, -1)), Den: one},
		"Den of 256 digits":          {Num: one, Den: of(power(256, -1))},
	}
	for name, n := range wrongInts() {
		m["Num: "+name] = ratio.Rat{Num: n, Den: one}
		m["Den: "+name] = ratio.Rat{Num: one, Den: n}
		m["both: "+name] = ratio.Rat{Num: n, Den: n}
	}
	return m
}

// brief is a fraction for a message.
func brief(a ratio.Rat) string {
	return briefInt(a.Num) + " / " + briefInt(a.Den)
}

func briefInt(a signed.Int) string {
	text := "0x"
	if a.Neg {
		text = "-0x"
	}
	for i := len(a.Mag) - 1; i >= 0; i-- {
		if i > 2 && i < len(a.Mag)-3 {
			continue
		}
		text += "_" + big.NewInt(int64(a.Mag[i])).Text(16)
	}
	return text
}

// P4.1 (Right): valid fractions, those of 64 digits among them.
func TestRight(t *testing.T) {
	for _, r := range fractions() {
		if !ratio.Right(rat(r)) {
			t.Errorf("Right(%s) = false", brief(rat(r)))
		}
	}
	for name, a := range map[string]ratio.Rat{
		"0 / 1":                  small(0, 1),
		"0 of empty digits":      {Num: signed.Int{Mag: []uint32{}}, Den: signed.Of(1)},
		"1 / 1":                  small(1, 1),
		"-3 / 2":                 small(-3, 2),
		"8 / 9":                  small(8, 9),
		"64 digits over 1":       {Num: of(most()), Den: signed.Of(1)},
		"-64 digits over 1":      {Num: of(opposite(most())), Den: signed.Of(1)},
		"1 over 64 digits":       {Num: signed.Of(1), Den: of(most())},
		"64 digits over as many": {Num: of(power(maxDigits, -2)), Den: of(most())},
	} {
		if !ratio.Right(a) {
			t.Errorf("Right of %s = false", name)
		}
	}
}

// P4.1 (Right): all that a fraction may not be.
func TestRightOfWrongOnes(t *testing.T) {
	for name, a := range wrong() {
		if ratio.Right(a) {
			t.Errorf("Right of %s = true", name)
		}
	}
}

// P4.1 (Right), by each pair of small numbers.
func TestRightOfSmallPairs(t *testing.T) {
	for num := int64(-40); num <= 40; num++ {
		for den := int64(-10); den <= 40; den++ {
			want := den > 0 && new(big.Int).GCD(nil, nil, big.NewInt(max(num, -num)), big.NewInt(max(den, 0))).Int64() == 1
			if got := ratio.Right(small(num, den)); got != want {
				t.Errorf("Right(%d / %d) = %t", num, den, got)
			}
		}
	}
}

// P4.1 (Of): 0, small numbers, and the ends of 32 and 64 bits.
func TestOf(t *testing.T) {
	for _, n := range []int64{0, 1, -1, 2, -2, 7, full, full + 1, -full, -full - 1, math.MaxInt64, math.MaxInt64 - 1, math.MinInt64, math.MinInt64 + 1} {
		a := ratio.Of(n)
		if !same(a, rat(big.NewRat(n, 1))) || !ratio.Right(a) {
			t.Errorf("Of(%d) = %s", n, brief(a))
		}
	}
}
