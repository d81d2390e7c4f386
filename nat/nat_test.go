package nat_test

import (
	"math"
	"math/big"
	"slices"
	"testing"

	"touchstone/api"
	"touchstone/nat"
)

type digits = []uint32

const full = math.MaxUint32

// repeated is a list of n times the same digit.
func repeated(n int, digit uint32) digits {
	l := make(digits, n)
	for i := range l {
		l[i] = digit
	}
	return l
}

// power is 2^32 to the power of n: n digits of 0, and then 1.
func power(n int) digits {
	return append(make(digits, n), 1)
}

// mixed is a list of n digits without any pattern, of which the last is not 0.
func mixed(n int, seed uint64) digits {
	l := make(digits, n)
	for i := range l {
		seed = seed*6364136223846793005 + 1442695040888963407
		l[i] = uint32(seed>>32) | 1
	}
	return l
}

// lists are all lists of at most n digits of a few edges, valid ones and others.
func lists(n int) []digits {
	all := []digits{nil}
	start := 0
	for range n {
		end := len(all)
		for _, shorter := range all[start:end] {
			for _, digit := range []uint32{0, 1, 1<<31 - 1, 1 << 31, full - 1, full} {
				all = append(all, append(slices.Clone(shorter), digit))
			}
		}
		start = end
	}
	return all
}

// short are all numbers of at most n digits of a few edges.
func short(n int) []digits {
	return slices.DeleteFunc(lists(n), func(l digits) bool {
		return len(l) > 0 && l[len(l)-1] == 0
	})
}

// long are numbers of many digits, up to MaxDigits.
func long() []digits {
	var l []digits
	for _, n := range []int{4, 64, 127, 128, 129, 255, 256} {
		l = append(l, repeated(n, full), power(n-1), mixed(n, uint64(n)), mixed(n, 7))
		seam := repeated(n, full)
		seam[n/2] = full - 1
		l = append(l, seam)
	}
	return l
}

// numbers are short numbers and long ones.
func numbers() []digits {
	return append(short(2), append(long(), digits{1, 2, 3}, digits{0, 0, full}, digits{full, full, full})...)
}

// wrong are lists that are no number's digits.
func wrong() map[string]digits {
	return map[string]digits{
		"a 0":                        {0},
		"two 0":                      {0, 0},
		"a last 0":                   {1, 0},
		"a last 0 of three":          {full, 1, 0},
		"256 digits and a last 0":    append(repeated(255, 5), 0),
		"256 digits of 0":            make(digits, 256),
		"257 digits":                 repeated(257, 1),
		"257 digits and a last 0":    append(repeated(256, 5), 0),
		"257 digits, the last not 0": power(256),
		"300 digits":                 repeated(300, full),
	}
}

// exact is the number of some digits.
func exact(a digits) *big.Int {
	l := make([]byte, 4*len(a))
	for i, digit := range a {
		for j := range 4 {
			l[len(l)-1-4*i-j] = byte(digit >> (8 * j))
		}
	}
	return new(big.Int).SetBytes(l)
}

// asDigits are the digits of a number.
func asDigits(n *big.Int) digits {
	var l digits
	rest := new(big.Int).Set(n)
	for rest.Sign() > 0 {
		low := new(big.Int).And(rest, big.NewInt(full))
		l = append(l, uint32(low.Uint64()))
		rest.Rsh(rest, 32)
	}
	return l
}

// owed is what a sum or a product owes for an exact result.
func owed(n *big.Int) (digits, api.Errno) {
	if l := asDigits(n); len(l) <= nat.MaxDigits {
		return l, api.OK
	}
	return nil, api.ErrBig
}

// brief is a list for a message.
func brief(a digits) any {
	if len(a) <= 8 {
		return a
	}
	return exact(a).Text(16)
}

type operation func(a, b []uint32) ([]uint32, api.Errno)

func expect(t *testing.T, name string, f operation, a, b, want digits, wantErr api.Errno) {
	t.Helper()
	if l, err := f(a, b); !slices.Equal(l, want) || err != wantErr {
		t.Fatalf("%s(%v, %v) = %v, %d; want %v, %d", name, brief(a), brief(b), brief(l), err, brief(want), wantErr)
	}
}

// P2.1: valid digits, and others.
func TestRight(t *testing.T) {
	if nat.MaxDigits != 256 {
		t.Errorf("MaxDigits = %d", nat.MaxDigits)
	}
	for _, a := range append(numbers(), digits{}, digits{0, 1}, digits{0, 0, 1}, power(255)) {
		if !nat.Right(a) {
			t.Errorf("Right(%v) = false", brief(a))
		}
	}
	for name, a := range wrong() {
		if nat.Right(a) {
			t.Errorf("Right of %s = true", name)
		}
	}
}

// P2.1: the digits of numbers of none, one and two digits.
func TestOf(t *testing.T) {
	for u, want := range map[uint64]digits{
		0:                    nil,
		1:                    {1},
		1<<31 - 1:            {1<<31 - 1},
		1 << 31:              {1 << 31},
		1<<32 - 1:            {full},
		1 << 32:              {0, 1},
		1<<32 + 5:            {5, 1},
		1<<33 - 1:            {full, 1},
		1 << 63:              {0, 1 << 31},
		math.MaxUint64 - 1:   {full - 1, full},
		math.MaxUint64:       {full, full},
		12345678901234567890: {3944680146, 2874452364},
	} {
		if l := nat.Of(u); !slices.Equal(l, want) {
			t.Errorf("Of(%d) = %v; want %v", u, l, want)
		}
		if n, err := nat.Uint(want); n != u || err != api.OK {
			t.Errorf("Uint(%v) = %d, %d; want %d", want, n, err, u)
		}
	}
}

// P2.2 (Uint), by exact arithmetic: a number of three digits is too great.
func TestUint(t *testing.T) {
	for _, a := range append(numbers(), short(3)...) {
		var want uint64
		wantErr := api.ErrOver
		if n := exact(a); n.IsUint64() {
			want, wantErr = n.Uint64(), api.OK
		}
		if u, err := nat.Uint(a); u != want || err != wantErr {
			t.Errorf("Uint(%v) = %d, %d; want %d, %d", brief(a), u, err, want, wantErr)
		}
	}
	if u, err := nat.Uint(power(2)); u != 0 || err != api.ErrOver {
		t.Errorf("Uint(2^64) = %d, %d", u, err)
	}
}

// P2.2: digits that are not valid, as either argument of every function.
func TestWrongDigits(t *testing.T) {
	for name, a := range wrong() {
		if u, err := nat.Uint(a); u != 0 || err != api.ErrArg {
			t.Errorf("Uint of %s = %d, %d", name, u, err)
		}
		if s, err := nat.Text(a); s != "" || err != api.ErrArg {
			t.Errorf("Text of %s = %q, %d", name, s, err)
		}
		for _, b := range []digits{nil, {1}, {full, full, full}, repeated(256, full), {0}, repeated(257, full)} {
			expectRefused(t, name, a, b)
			expectRefused(t, name, b, a)
		}
		expectRefused(t, name, a, a)
	}
}

func expectRefused(t *testing.T, name string, a, b digits) {
	t.Helper()
	for i, f := range []operation{nat.Add, nat.Sub, nat.Mul} {
		if l, err := f(a, b); len(l) != 0 || err != api.ErrArg {
			t.Errorf("%s of %s and another = %v, %d", []string{"Add", "Sub", "Mul"}[i], name, l, err)
		}
	}
	if c, err := nat.Cmp(a, b); c != 0 || err != api.ErrArg {
		t.Errorf("Cmp of %s and another = %d, %d", name, c, err)
	}
	if q, r, err := nat.DivMod(a, b); len(q) != 0 || len(r) != 0 || err != api.ErrArg {
		t.Errorf("DivMod of %s and another = %v, %v, %d", name, q, r, err)
	}
}

// P2.2 (Cmp, Add, Sub, Mul), by exact arithmetic.
func TestNumbersAreExact(t *testing.T) {
	l := append(numbers(), short(3)...)
	values := make([]*big.Int, len(l))
	for i, a := range l {
		values[i] = exact(a)
	}
	for i, a := range l {
		for j, b := range l {
			x, y := values[i], values[j]
			if c, err := nat.Cmp(a, b); c != x.Cmp(y) || err != api.OK {
				t.Fatalf("Cmp(%v, %v) = %d, %d; want %d", brief(a), brief(b), c, err, x.Cmp(y))
			}
			want, err := owed(new(big.Int).Add(x, y))
			expect(t, "Add", nat.Add, a, b, want, err)
			want, err = owed(new(big.Int).Mul(x, y))
			expect(t, "Mul", nat.Mul, a, b, want, err)
			if x.Cmp(y) < 0 {
				expect(t, "Sub", nat.Sub, a, b, nil, api.ErrArg)
			} else {
				expect(t, "Sub", nat.Sub, a, b, asDigits(new(big.Int).Sub(x, y)), api.OK)
			}
		}
	}
}

// P2.2 (Cmp): each place may decide, the highest first.
func TestCmp(t *testing.T) {
	for _, c := range []struct {
		a, b digits
		want int
	}{
		{nil, nil, 0},
		{nil, digits{}, 0},
		{nil, digits{1}, -1},
		{digits{1}, nil, 1},
		{digits{7}, digits{7}, 0},
		{digits{full}, digits{0, 1}, -1},
		{digits{0, 1}, digits{full}, 1},
		{digits{1, 2, 3}, digits{1, 2, 3}, 0},
		{digits{1, 2, 3}, digits{2, 2, 3}, -1},
		{digits{full, 1, 3}, digits{0, 2, 3}, -1},
		{digits{0, 0, 4}, digits{full, full, 3}, 1},
		{digits{1 << 31}, digits{1<<31 - 1}, 1},
		{repeated(256, full), repeated(256, full), 0},
		{repeated(256, full), repeated(255, full), 1},
		{power(255), repeated(255, full), 1},
	} {
		if n, err := nat.Cmp(c.a, c.b); n != c.want || err != api.OK {
			t.Errorf("Cmp(%v, %v) = %d, %d; want %d", brief(c.a), brief(c.b), n, err, c.want)
		}
	}
}

// P2.2 (Add): carries through all places, and sums of 256 and 257 digits.
func TestAdd(t *testing.T) {
	most := repeated(256, full)
	nextToMost := repeated(256, full)
	nextToMost[0]--
	for _, c := range []struct {
		a, b, want digits
		wantErr    api.Errno
	}{
		{nil, nil, nil, api.OK},
		{nil, digits{5}, digits{5}, api.OK},
		{digits{1}, digits{2}, digits{3}, api.OK},
		{digits{full}, digits{1}, digits{0, 1}, api.OK},
		{digits{full}, digits{full}, digits{full - 1, 1}, api.OK},
		{digits{full, full}, digits{1}, digits{0, 0, 1}, api.OK},
		{digits{full, full, 5}, digits{1}, digits{0, 0, 6}, api.OK},
		{digits{1, full}, digits{full, 0, 1}, digits{0, 0, 2}, api.OK},
		{digits{full - 1, full}, digits{1}, digits{full, full}, api.OK},
		{repeated(255, full), digits{1}, power(255), api.OK},
		{repeated(255, full), repeated(255, full), append(append(digits{full - 1}, repeated(254, full)...), 1), api.OK},
		{most, nil, most, api.OK},
		{nextToMost, digits{1}, most, api.OK},
		{most, digits{1}, nil, api.ErrBig},
		{digits{1}, most, nil, api.ErrBig},
		{most, most, nil, api.ErrBig},
		{nextToMost, digits{2}, nil, api.ErrBig},
		{power(255), repeated(255, full), append(repeated(255, full), 1), api.OK},
		{append(make(digits, 255), 1<<31), append(make(digits, 255), 1<<31), nil, api.ErrBig},
		{append(make(digits, 255), 1<<31), append(make(digits, 255), 1<<31-1), append(make(digits, 255), full), api.OK},
	} {
		expect(t, "Add", nat.Add, c.a, c.b, c.want, c.wantErr)
		expect(t, "Add", nat.Add, c.b, c.a, c.want, c.wantErr)
	}
}

// P2.2 (Sub): equal numbers, greater ones, and borrows through all places.
func TestSub(t *testing.T) {
	for _, c := range []struct {
		a, b, want digits
		wantErr    api.Errno
	}{
		{nil, nil, nil, api.OK},
		{digits{5}, nil, digits{5}, api.OK},
		{digits{5}, digits{5}, nil, api.OK},
		{digits{5}, digits{3}, digits{2}, api.OK},
		{digits{1}, digits{2}, nil, api.ErrArg},
		{nil, digits{1}, nil, api.ErrArg},
		{digits{0, 1}, digits{1}, digits{full}, api.OK},
		{digits{full}, digits{0, 1}, nil, api.ErrArg},
		{digits{0, 0, 1}, digits{1}, digits{full, full}, api.OK},
		{digits{0, 0, 1}, digits{full, full}, digits{1}, api.OK},
		{digits{0, 0, 7}, digits{1}, digits{full, full, 6}, api.OK},
		{digits{5, 1, 1}, digits{6, 1, 1}, nil, api.ErrArg},
		{digits{5, 1, 1}, digits{5, 1, 1}, nil, api.OK},
		{digits{5, 1, 1}, digits{4, 1, 1}, digits{1}, api.OK},
		{power(255), digits{1}, repeated(255, full), api.OK},
		{repeated(256, full), repeated(256, full), nil, api.OK},
		{repeated(255, full), repeated(256, full), nil, api.ErrArg},
		{repeated(256, full), repeated(255, full), append(make(digits, 255), full), api.OK},
	} {
		expect(t, "Sub", nat.Sub, c.a, c.b, c.want, c.wantErr)
	}
}

// P2.2 (Mul): products of 256 and 257 digits.
func TestMul(t *testing.T) {
	most := repeated(256, full)
	for _, c := range []struct {
		a, b, want digits
		wantErr    api.Errno
	}{
		{nil, nil, nil, api.OK},
		{nil, digits{5}, nil, api.OK},
		{nil, most, nil, api.OK},
		{digits{1}, most, most, api.OK},
		{digits{3}, digits{4}, digits{12}, api.OK},
		{digits{full}, digits{full}, digits{1, full - 1}, api.OK},
		{digits{0, 1}, digits{0, 1}, digits{0, 0, 1}, api.OK},
		{digits{1 << 16}, digits{1 << 16}, digits{0, 1}, api.OK},
		{digits{full, full}, digits{full}, digits{1, full, full - 1}, api.OK},
		{digits{full, full}, digits{full, full}, digits{1, 0, full - 1, full}, api.OK},
		{digits{2}, most, nil, api.ErrBig},
		{digits{0, 1}, most, nil, api.ErrBig},
		{digits{0, 1}, repeated(255, full), append(digits{0}, repeated(255, full)...), api.OK},
		{most, most, nil, api.ErrBig},
		{power(127), power(128), power(255), api.OK},
		{power(128), power(128), nil, api.ErrBig},
		{repeated(128, full), repeated(129, full), nil, api.ErrBig},
		{append(make(digits, 127), 1<<16), append(make(digits, 128), 1<<16), nil, api.ErrBig},
		{append(make(digits, 127), 1<<16), append(make(digits, 128), 1<<16-1), append(make(digits, 255), 1<<32-1<<16), api.OK},
		{repeated(128, full), repeated(128, full), append(append(append(digits{1}, make(digits, 127)...), full-1), repeated(127, full)...), api.OK},
		{append(make(digits, 255), 1<<31), digits{2}, nil, api.ErrBig},
		{append(make(digits, 255), 1<<31-1), digits{2}, append(make(digits, 255), full-1), api.OK},
	} {
		expect(t, "Mul", nat.Mul, c.a, c.b, c.want, c.wantErr)
		expect(t, "Mul", nat.Mul, c.b, c.a, c.want, c.wantErr)
	}
}
