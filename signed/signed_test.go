package signed_test

import (
	"encoding/binary"
	"math"
	"math/big"
	"slices"
	"testing"

	"touchstone/api"
	"touchstone/nat"
	"touchstone/signed"
)

const full = math.MaxUint32

// of is the number of an exact one.
func of(n *big.Int) signed.Int {
	bytes := n.Bytes()
	slices.Reverse(bytes)
	var mag []uint32
	for digit := range slices.Chunk(bytes, 4) {
		mag = append(mag, binary.LittleEndian.Uint32(append(slices.Clone(digit), 0, 0, 0)))
	}
	return signed.Int{Neg: n.Sign() < 0, Mag: mag}
}

// owed is what a call owes for an exact result.
func owed(n *big.Int) (signed.Int, api.Errno) {
	if n.BitLen() > 32*nat.MaxDigits {
		return signed.Int{}, api.ErrBig
	}
	return of(n), api.OK
}

func same(a, b signed.Int) bool {
	return a.Neg == b.Neg && slices.Equal(a.Mag, b.Mag)
}

// integer is an exact number of a few digits to the base 2^32, the lowest first, like an Int's.
func integer(neg bool, digits ...uint32) *big.Int {
	n := new(big.Int)
	for i, digit := range digits {
		n.Add(n, new(big.Int).Lsh(big.NewInt(int64(digit)), uint(32*i)))
	}
	if neg {
		n.Neg(n)
	}
	return n
}

// power is 2^32 to the power of n, and some more.
func power(n int, more int64) *big.Int {
	p := new(big.Int).Lsh(big.NewInt(1), uint(32*n))
	return p.Add(p, big.NewInt(more))
}

// mixed is a number of n digits without any pattern.
func mixed(n int, seed uint64) *big.Int {
	digits := make([]uint32, n)
	for i := range digits {
		seed = seed*6364136223846793005 + 1442695040888963407
		digits[i] = uint32(seed>>32) | 1
	}
	return integer(false, digits...)
}

// bothSigns adds to a list the opposite of each of its numbers that are not 0.
func bothSigns(l []*big.Int) []*big.Int {
	for _, n := range l {
		if n.Sign() != 0 {
			l = append(l, new(big.Int).Neg(n))
		}
	}
	return l
}

// short are numbers of a few digits, of both signs: 0, the ends of 32 and 64 bits and what is
// beside them, and some that have divisors in common.
func short() []*big.Int {
	var l []*big.Int
	for n := range int64(8) {
		l = append(l, big.NewInt(n))
	}
	for _, n := range []int64{12, 18, 97, 1000, 362880, 1000000007, 3 << 40, 600851475143} {
		l = append(l, big.NewInt(n))
	}
	for _, bits := range []uint{31, 32, 33, 62, 63, 64, 65, 96} {
		for more := int64(-2); more <= 2; more++ {
			n := new(big.Int).Lsh(big.NewInt(1), bits)
			l = append(l, n.Add(n, big.NewInt(more)))
		}
	}
	return bothSigns(append(l, mixed(2, 1), mixed(3, 2), mixed(4, 3), integer(false, 0, full, 0, 1<<31)))
}

// long are numbers of many digits, up to nat.MaxDigits, of both signs.
func long() []*big.Int {
	var l []*big.Int
	for _, n := range []int{127, 128, 129, 255, 256} {
		l = append(l, power(n, -1), power(n-1, 0), mixed(n, uint64(n)))
	}
	half := power(256, 0)
	half.Rsh(half, 1)
	return bothSigns(append(l, mixed(64, 8), mixed(256, 9), half, power(256, -2), power(255, 1)))
}

func numbers() []*big.Int {
	return append(short(), long()...)
}

// wrong are no valid numbers.
func wrong() map[string]signed.Int {
	return map[string]signed.Int{
		"0 with Neg":                  {Neg: true},
		"0 with Neg and empty digits": {Neg: true, Mag: []uint32{}},
		"a digit of 0":                {Mag: []uint32{0}},
		"a digit of 0 with Neg":       {Neg: true, Mag: []uint32{0}},
		"a last 0":                    {Mag: []uint32{1, 0}},
		"a last 0 with Neg":           {Neg: true, Mag: []uint32{full, 5, 0}},
		"256 digits of 0":             {Mag: make([]uint32, 256)},
		"257 digits":                  of(power(256, 0)),
		"257 digits with Neg":         of(new(big.Int).Neg(power(256, 5))),
		"257 digits and a last 0":     {Mag: append(of(power(255, 1)).Mag, 0)},
		"300 digits":                  of(power(300, -1)),
	}
}

// brief is a number for a message.
func brief(a signed.Int) string {
	sign := ""
	if a.Neg {
		sign = "-"
	}
	text := integer(false, a.Mag...).Text(16)
	if len(text) > 80 {
		return sign + "0x" + text[:30] + ".." + text[len(text)-30:]
	}
	return sign + "0x" + text
}

type operation func(a, b signed.Int) (signed.Int, api.Errno)

func expect(t *testing.T, name string, f operation, x, y, want *big.Int) {
	t.Helper()
	wanted, wantErr := owed(want)
	if n, err := f(of(x), of(y)); !same(n, wanted) || err != wantErr {
		t.Fatalf("%s(%s, %s) = %s, %d; want %s, %d", name, brief(of(x)), brief(of(y)), brief(n), err, brief(wanted), wantErr)
	}
}

// P3.1: valid numbers, and those that are not.
func TestRight(t *testing.T) {
	for _, n := range numbers() {
		if !signed.Right(of(n)) {
			t.Errorf("Right(%s) = false", brief(of(n)))
		}
	}
	if !signed.Right(signed.Int{}) || !signed.Right(signed.Int{Mag: []uint32{}}) {
		t.Error("Right(0) = false")
	}
	for name, a := range wrong() {
		if signed.Right(a) {
			t.Errorf("Right of %s = true", name)
		}
	}
}

// P3.1 and P3.2: Of at the ends of its range and beside them, and Small back.
func TestOfAndSmall(t *testing.T) {
	for _, c := range []struct {
		n    int64
		want signed.Int
	}{
		{0, signed.Int{}},
		{1, signed.Int{Mag: []uint32{1}}},
		{-1, signed.Int{Neg: true, Mag: []uint32{1}}},
		{-5, signed.Int{Neg: true, Mag: []uint32{5}}},
		{full, signed.Int{Mag: []uint32{full}}},
		{-full, signed.Int{Neg: true, Mag: []uint32{full}}},
		{1 << 32, signed.Int{Mag: []uint32{0, 1}}},
		{-1 << 32, signed.Int{Neg: true, Mag: []uint32{0, 1}}},
		{1<<62 + 3, signed.Int{Mag: []uint32{3, 1 << 30}}},
		{math.MaxInt64 - 1, signed.Int{Mag: []uint32{full - 1, 1<<31 - 1}}},
		{math.MaxInt64, signed.Int{Mag: []uint32{full, 1<<31 - 1}}},
		{math.MinInt64, signed.Int{Neg: true, Mag: []uint32{0, 1 << 31}}},
		{math.MinInt64 + 1, signed.Int{Neg: true, Mag: []uint32{full, 1<<31 - 1}}},
		{math.MinInt64 + 2, signed.Int{Neg: true, Mag: []uint32{full - 1, 1<<31 - 1}}},
	} {
		if a := signed.Of(c.n); !same(a, c.want) || !signed.Right(a) {
			t.Errorf("Of(%d) = %v; want %v", c.n, a, c.want)
		}
		if n, err := signed.Small(c.want); n != c.n || err != api.OK {
			t.Errorf("Small(%v) = %d, %d; want %d", c.want, n, err, c.n)
		}
	}
}

// P3.2 (Small): numbers just outside the range, and far outside.
func TestSmallOfOthers(t *testing.T) {
	for _, a := range []signed.Int{
		{Mag: []uint32{0, 1 << 31}},
		{Mag: []uint32{1, 1 << 31}},
		{Neg: true, Mag: []uint32{1, 1 << 31}},
		{Neg: true, Mag: []uint32{2, 1 << 31}},
		{Mag: []uint32{full, full}},
		{Neg: true, Mag: []uint32{full, full}},
		{Neg: true, Mag: []uint32{0, 1<<31 + 1}},
		{Mag: []uint32{0, 0, 1}},
		{Neg: true, Mag: []uint32{0, 0, 1}},
		{Neg: true, Mag: []uint32{0, 1 << 31, 1}},
	} {
		if n, err := signed.Small(a); n != 0 || err != api.ErrOver {
			t.Errorf("Small(%v) = %d, %d", a, n, err)
		}
	}
}

// P3.1 and P3.2 (Of, Small, Neg), by exact arithmetic.
func TestSingleNumbersAreExact(t *testing.T) {
	for _, x := range numbers() {
		var want int64
		wantErr := api.ErrOver
		if x.IsInt64() {
			want, wantErr = x.Int64(), api.OK
			if a := signed.Of(want); !same(a, of(x)) {
				t.Errorf("Of(%d) = %v", want, a)
			}
		}
		if n, err := signed.Small(of(x)); n != want || err != wantErr {
			t.Errorf("Small(%s) = %d, %d; want %d, %d", brief(of(x)), n, err, want, wantErr)
		}
		if a, err := signed.Neg(of(x)); !same(a, of(new(big.Int).Neg(x))) || err != api.OK {
			t.Errorf("Neg(%s) = %s, %d", brief(of(x)), brief(a), err)
		}
	}
	if a, err := signed.Neg(signed.Int{Mag: []uint32{}}); a.Neg || len(a.Mag) != 0 || err != api.OK {
		t.Errorf("Neg(0) = %v, %d", a, err)
	}
}

// P3.2 (Cmp, Add, Mul), by exact arithmetic, for all pairs.
func TestPairsAreExact(t *testing.T) {
	for _, x := range numbers() {
		for _, y := range numbers() {
			if c, err := signed.Cmp(of(x), of(y)); c != x.Cmp(y) || err != api.OK {
				t.Fatalf("Cmp(%s, %s) = %d, %d; want %d", brief(of(x)), brief(of(y)), c, err, x.Cmp(y))
			}
			expect(t, "Add", signed.Add, x, y, new(big.Int).Add(x, y))
			expect(t, "Mul", signed.Mul, x, y, new(big.Int).Mul(x, y))
		}
	}
}

// P3.2 (Cmp): the sign decides, then the digits.
func TestCmp(t *testing.T) {
	ascending := []*big.Int{
		new(big.Int).Neg(power(256, -1)), new(big.Int).Neg(power(255, 0)), integer(true, 0, 1), integer(true, full), integer(true, 3), integer(true, 2),
		integer(false), integer(false, 2), integer(false, 3), integer(false, full), integer(false, 0, 1), power(255, 0), power(256, -1),
	}
	for i, x := range ascending {
		for j, y := range ascending {
			want := 0
			if i < j {
				want = -1
			}
			if i > j {
				want = 1
			}
			if c, err := signed.Cmp(of(x), of(y)); c != want || err != api.OK {
				t.Errorf("Cmp(%s, %s) = %d, %d; want %d", brief(of(x)), brief(of(y)), c, err, want)
			}
		}
	}
}

// P3.2 (Add): sums of unlike signs that are 0 or need fewer digits, carries, and 256 and 257
// digits.
func TestAdd(t *testing.T) {
	most := power(256, -1)
	negMost := new(big.Int).Neg(most)
	for _, c := range []struct {
		a, b, want *big.Int
	}{
		{integer(false), integer(false), integer(false)},
		{integer(false, 2), integer(false, 3), integer(false, 5)},
		{integer(true, 2), integer(true, 3), integer(true, 5)},
		{integer(false, 2), integer(true, 3), integer(true, 1)},
		{integer(true, 2), integer(false, 3), integer(false, 1)},
		{integer(true, 7), integer(false, 7), integer(false)},
		{integer(true, 7), integer(false), integer(true, 7)},
		{integer(false, 0, 1), integer(true, 1), integer(false, full)},
		{integer(true, 0, 1), integer(false, 1), integer(true, full)},
		{integer(false, 0, 0, 1), integer(true, full, full), integer(false, 1)},
		{integer(true, 5, 1, 1), integer(false, 4, 1, 1), integer(true, 1)},
		{integer(true, 5, 1, 1), integer(false, 6, 1, 1), integer(false, 1)},
		{integer(true, full), integer(true, 1), integer(true, 0, 1)},
		{most, negMost, integer(false)},
		{power(255, 0), integer(true, 1), power(255, -1)},
		{negMost, power(256, -2), integer(true, 1)},
		{most, integer(false), most},
		{power(256, -2), integer(false, 1), most},
		{new(big.Int).Neg(power(256, -2)), integer(true, 1), negMost},
		{most, integer(true, 1), power(256, -2)},
	} {
		expect(t, "Add", signed.Add, c.a, c.b, c.want)
		expect(t, "Add", signed.Add, c.b, c.a, c.want)
	}
	for _, c := range []struct{ a, b *big.Int }{
		{most, integer(false, 1)}, {negMost, integer(true, 1)}, {most, most}, {negMost, negMost}, {power(256, -2), integer(false, 2)},
	} {
		expectErr(t, "Add", signed.Add, of(c.a), of(c.b), api.ErrBig)
		expectErr(t, "Add", signed.Add, of(c.b), of(c.a), api.ErrBig)
	}
}

// P3.2 (Mul): all pairs of signs, 0, and products of 256 and 257 digits.
func TestMul(t *testing.T) {
	most := power(256, -1)
	negMost := new(big.Int).Neg(most)
	for _, c := range []struct {
		a, b, want *big.Int
	}{
		{integer(false, 3), integer(false, 4), integer(false, 12)},
		{integer(true, 3), integer(false, 4), integer(true, 12)},
		{integer(true, 3), integer(true, 4), integer(false, 12)},
		{integer(false), integer(false), integer(false)},
		{integer(false), integer(true, 4), integer(false)},
		{integer(false), negMost, integer(false)},
		{integer(true, 1), most, negMost},
		{integer(true, 1), negMost, most},
		{integer(true, 0, 1), integer(false, 0, 1), integer(true, 0, 0, 1)},
		{power(127, 0), new(big.Int).Neg(power(128, 0)), new(big.Int).Neg(power(255, 0))},
	} {
		expect(t, "Mul", signed.Mul, c.a, c.b, c.want)
		expect(t, "Mul", signed.Mul, c.b, c.a, c.want)
	}
	for _, c := range []struct{ a, b *big.Int }{
		{most, integer(true, 2)}, {negMost, negMost}, {power(128, 0), new(big.Int).Neg(power(128, 0))}, {power(255, 0), integer(true, 0, 1)},
	} {
		expectErr(t, "Mul", signed.Mul, of(c.a), of(c.b), api.ErrBig)
		expectErr(t, "Mul", signed.Mul, of(c.b), of(c.a), api.ErrBig)
	}
}

// expectErr asks for an error, and for the zero value beside it.
func expectErr(t *testing.T, name string, f operation, a, b signed.Int, want api.Errno) {
	t.Helper()
	if n, err := f(a, b); n.Neg || len(n.Mag) != 0 || err != want {
		t.Errorf("%s(%s, %s) = %s, %d; want the error %d", name, brief(a), brief(b), brief(n), err, want)
	}
}

// P3.2 and P3.3: numbers that are not valid, alone and beside valid ones.
func TestWrongNumbers(t *testing.T) {
	for name, a := range wrong() {
		if n, err := signed.Small(a); n != 0 || err != api.ErrArg {
			t.Errorf("Small of %s = %d, %d", name, n, err)
		}
		if n, err := signed.Neg(a); n.Neg || len(n.Mag) != 0 || err != api.ErrArg {
			t.Errorf("Neg of %s = %v, %d", name, n, err)
		}
		if s, err := signed.Text(a); s != "" || err != api.ErrArg {
			t.Errorf("Text of %s = %q, %d", name, s, err)
		}
		expectRefused(t, a, a)
		for _, n := range []*big.Int{big.NewInt(0), big.NewInt(1), big.NewInt(-1), integer(true, full, full, full), power(256, -1)} {
			expectRefused(t, a, of(n))
			expectRefused(t, of(n), a)
		}
		for _, b := range wrong() {
			expectRefused(t, a, b)
		}
	}
}

func expectRefused(t *testing.T, a, b signed.Int) {
	t.Helper()
	expectErr(t, "Add", signed.Add, a, b, api.ErrArg)
	expectErr(t, "Mul", signed.Mul, a, b, api.ErrArg)
	expectErr(t, "Gcd", signed.Gcd, a, b, api.ErrArg)
	if c, err := signed.Cmp(a, b); c != 0 || err != api.ErrArg {
		t.Errorf("Cmp(%s, %s) = %d, %d", brief(a), brief(b), c, err)
	}
	expectNotDivided(t, a, b)
}
