package check_test

import (
	"math/big"
	"slices"
	"testing"

	"touchstone/api"
	"touchstone/check"
)

const (
	top = 1<<63 - 1
	low = -1 << 63
)

type operation func(a, b int64) (int64, api.Errno)

// edges are the ends of the range, the square roots of its size, 0, and neighbors of each.
func edges() []int64 {
	var l []int64
	for _, middle := range []int64{low, -1 << 62, -3037000500, -1 << 32, -1 << 31, 0, 1 << 31, 1 << 32, 3037000500, 1 << 62, top} {
		for d := int64(-3); d <= 3; d++ {
			n := middle + d
			if (d < 0) == (n < middle) {
				l = append(l, n)
			}
		}
	}
	return append(l, -1000003, -97, -12, -7, 7, 12, 97, 1000003, 6074001000, top/2, top/3, low/3, top/7, low/7)
}

// exact is what an operation owes for an exact result: the number, or ErrOver where it does not fit.
func exact(n *big.Int) (int64, api.Errno) {
	if !n.IsInt64() {
		return 0, api.ErrOver
	}
	return n.Int64(), api.OK
}

// roundedDown is the greatest integer that is at most a / b.
func roundedDown(a, b *big.Int) *big.Int {
	quotient, rest := new(big.Int).QuoRem(a, b, new(big.Int))
	if rest.Sign()*b.Sign() < 0 {
		quotient.Sub(quotient, big.NewInt(1))
	}
	return quotient
}

// roundedUp is the least integer that is at least a / b.
func roundedUp(a, b *big.Int) *big.Int {
	opposite := new(big.Int).Neg(a)
	down := roundedDown(opposite, b)
	return down.Neg(down)
}

func expect(t *testing.T, name string, f operation, a, b, want int64, wantErr api.Errno) {
	t.Helper()
	if n, err := f(a, b); n != want || err != wantErr {
		t.Errorf("%s(%d, %d) = %d, %d; want %d, %d", name, a, b, n, err, want, wantErr)
	}
}

// P1.1, by exact arithmetic, for all pairs of edges.
func TestSumsDifferencesProductsAreExact(t *testing.T) {
	for _, a := range edges() {
		for _, b := range edges() {
			x, y := big.NewInt(a), big.NewInt(b)
			n, err := exact(new(big.Int).Add(x, y))
			expect(t, "Add", check.Add, a, b, n, err)
			n, err = exact(new(big.Int).Sub(x, y))
			expect(t, "Sub", check.Sub, a, b, n, err)
			n, err = exact(new(big.Int).Mul(x, y))
			expect(t, "Mul", check.Mul, a, b, n, err)
		}
	}
}

// P1.1, at the ends of the range.
func TestSumsDifferencesProductsAtTheEnds(t *testing.T) {
	for _, c := range []struct {
		name    string
		f       operation
		a, b    int64
		want    int64
		wantErr api.Errno
	}{
		{"Add", check.Add, 0, 0, 0, api.OK},
		{"Add", check.Add, 2, 3, 5, api.OK},
		{"Add", check.Add, top, 0, top, api.OK},
		{"Add", check.Add, top - 1, 1, top, api.OK},
		{"Add", check.Add, top, 1, 0, api.ErrOver},
		{"Add", check.Add, top, top, 0, api.ErrOver},
		{"Add", check.Add, low, 0, low, api.OK},
		{"Add", check.Add, low + 1, -1, low, api.OK},
		{"Add", check.Add, low, -1, 0, api.ErrOver},
		{"Add", check.Add, low, low, 0, api.ErrOver},
		{"Add", check.Add, low, top, -1, api.OK},
		{"Sub", check.Sub, 2, 3, -1, api.OK},
		{"Sub", check.Sub, low, 0, low, api.OK},
		{"Sub", check.Sub, low, 1, 0, api.ErrOver},
		{"Sub", check.Sub, low, low, 0, api.OK},
		{"Sub", check.Sub, low, top, 0, api.ErrOver},
		{"Sub", check.Sub, 0, low, 0, api.ErrOver},
		{"Sub", check.Sub, -1, low, top, api.OK},
		{"Sub", check.Sub, top, -1, 0, api.ErrOver},
		{"Sub", check.Sub, top, top, 0, api.OK},
		{"Sub", check.Sub, -2, top, 0, api.ErrOver},
		{"Sub", check.Sub, -1, top, low, api.OK},
		{"Mul", check.Mul, -3, 4, -12, api.OK},
		{"Mul", check.Mul, 0, low, 0, api.OK},
		{"Mul", check.Mul, low, 0, 0, api.OK},
		{"Mul", check.Mul, low, 1, low, api.OK},
		{"Mul", check.Mul, 1, low, low, api.OK},
		{"Mul", check.Mul, low, -1, 0, api.ErrOver},
		{"Mul", check.Mul, -1, low, 0, api.ErrOver},
		{"Mul", check.Mul, low, 2, 0, api.ErrOver},
		{"Mul", check.Mul, low, low, 0, api.ErrOver},
		{"Mul", check.Mul, top, -1, low + 1, api.OK},
		{"Mul", check.Mul, top, top, 0, api.ErrOver},
		{"Mul", check.Mul, 1 << 32, 1 << 31, 0, api.ErrOver},
		{"Mul", check.Mul, 1 << 32, -1 << 31, low, api.OK},
		{"Mul", check.Mul, 1 << 32, 1 << 32, 0, api.ErrOver},
	} {
		expect(t, c.name, c.f, c.a, c.b, c.want, c.wantErr)
	}
}

// P1.2, by exact arithmetic, for all pairs of edges and all small pairs.
func TestQuotientsAreExact(t *testing.T) {
	try := func(a, b int64) {
		if b == 0 {
			expect(t, "Floor", check.Floor, a, b, 0, api.ErrArg)
			expect(t, "Ceil", check.Ceil, a, b, 0, api.ErrArg)
			return
		}
		n, err := exact(roundedDown(big.NewInt(a), big.NewInt(b)))
		expect(t, "Floor", check.Floor, a, b, n, err)
		n, err = exact(roundedUp(big.NewInt(a), big.NewInt(b)))
		expect(t, "Ceil", check.Ceil, a, b, n, err)
	}
	for _, a := range edges() {
		for _, b := range edges() {
			try(a, b)
		}
	}
	for a := int64(-20); a <= 20; a++ {
		for b := int64(-20); b <= 20; b++ {
			try(a, b)
		}
	}
}

// P1.2, for each pair of signs, a divisor of 0, and the only quotient that overflows.
func TestQuotientsAtTheEnds(t *testing.T) {
	for _, c := range []struct {
		a, b        int64
		floor, ceil int64
		wantErr     api.Errno
	}{
		{7, 2, 3, 4, api.OK},
		{-7, 2, -4, -3, api.OK},
		{7, -2, -4, -3, api.OK},
		{-7, -2, 3, 4, api.OK},
		{6, 2, 3, 3, api.OK},
		{-6, 2, -3, -3, api.OK},
		{6, -2, -3, -3, api.OK},
		{-6, -2, 3, 3, api.OK},
		{0, 5, 0, 0, api.OK},
		{0, -5, 0, 0, api.OK},
		{1, 5, 0, 1, api.OK},
		{-1, 5, -1, 0, api.OK},
		{1, -5, -1, 0, api.OK},
		{-1, -5, 0, 1, api.OK},
		{top, low, -1, 0, api.OK},
		{low, top, -2, -1, api.OK},
		{low, low, 1, 1, api.OK},
		{low, 1, low, low, api.OK},
		{low, -2, 1 << 62, 1 << 62, api.OK},
		{top, -1, low + 1, low + 1, api.OK},
		{top, 2, 1<<62 - 1, 1 << 62, api.OK},
		{low, -1, 0, 0, api.ErrOver},
		{1, 0, 0, 0, api.ErrArg},
		{0, 0, 0, 0, api.ErrArg},
		{low, 0, 0, 0, api.ErrArg},
		{top, 0, 0, 0, api.ErrArg},
	} {
		expect(t, "Floor", check.Floor, c.a, c.b, c.floor, c.wantErr)
		expect(t, "Ceil", check.Ceil, c.a, c.b, c.ceil, c.wantErr)
	}
}

// P1.3: ordinary lists, unlike lengths, and products and partial sums that overflow.
func TestDot(t *testing.T) {
	for _, c := range []struct {
		name    string
		a, b    []int64
		want    int64
		wantErr api.Errno
	}{
		{"ordinary", []int64{1, 2}, []int64{3, 4}, 11, api.OK},
		{"mixed signs", []int64{-1, 2, -3}, []int64{4, -5, -6}, 4, api.OK},
		{"nothing", nil, nil, 0, api.OK},
		{"nil and empty", nil, []int64{}, 0, api.OK},
		{"one", []int64{7}, []int64{-3}, -21, api.OK},
		{"unlike lengths", []int64{1, 2}, []int64{3}, 0, api.ErrArg},
		{"unlike lengths, the other way", []int64{1}, []int64{3, 4}, 0, api.ErrArg},
		{"nil and one", nil, []int64{1}, 0, api.ErrArg},
		{"one and nil", []int64{1}, nil, 0, api.ErrArg},
		{"unlike lengths before an overflow", []int64{low, 1}, []int64{-1}, 0, api.ErrArg},
		{"least product", []int64{low}, []int64{1}, low, api.OK},
		{"greatest product", []int64{top}, []int64{1}, top, api.OK},
		{"first product overflows", []int64{low, 1}, []int64{-1, 1}, 0, api.ErrOver},
		{"last product overflows", []int64{-1, low}, []int64{1, -1}, 0, api.ErrOver},
		{"products overflow, the whole sum would be 0", []int64{top, top}, []int64{2, -2}, 0, api.ErrOver},
		{"whole sum too great", []int64{top, 1}, []int64{1, 1}, 0, api.ErrOver},
		{"whole sum too small", []int64{low, 1}, []int64{1, -1}, 0, api.ErrOver},
		{"partial sum too great, the whole sum fits", []int64{top, 1, -1}, []int64{1, 1, 1}, 0, api.ErrOver},
		{"partial sum too small, the whole sum fits", []int64{low, -1, 1}, []int64{1, 1, 1}, 0, api.ErrOver},
		{"only a partial sum from the last product on is too great", []int64{-1, 1, top}, []int64{1, 1, 1}, top, api.OK},
		{"only a sum of the positive products is too great", []int64{top, -1, 1}, []int64{1, 1, 1}, top, api.OK},
		{"both ends", []int64{low, top}, []int64{1, 1}, -1, api.OK},
		{"overflow late in the list", []int64{1, 2, 3, top, 5}, []int64{1, 1, 1, 1, 1}, 0, api.ErrOver},
	} {
		if n, err := check.Dot(c.a, c.b); n != c.want || err != c.wantErr {
			t.Errorf("%s: Dot(%v, %v) = %d, %d; want %d, %d", c.name, c.a, c.b, n, err, c.want, c.wantErr)
		}
	}
}

// P1.3, by exact arithmetic, for all lists of three of a few numbers with few factors.
func TestDotIsExact(t *testing.T) {
	numbers := []int64{low, low / 2, -1, 0, 1, 3, 1 << 62, top}
	factors := []int64{-2, -1, 1, 2}
	for i := range len(numbers) * len(numbers) * len(numbers) {
		a := []int64{numbers[i%8], numbers[i/8%8], numbers[i/64]}
		for j := range len(factors) * len(factors) * len(factors) {
			b := []int64{factors[j%4], factors[j/4%4], factors[j/16]}
			want, wantErr := exactDot(a, b)
			if n, err := check.Dot(a, b); n != want || err != wantErr {
				t.Fatalf("Dot(%v, %v) = %d, %d; want %d, %d", a, b, n, err, want, wantErr)
			}
		}
	}
}

func exactDot(a, b []int64) (int64, api.Errno) {
	sum := new(big.Int)
	for i := range a {
		product := new(big.Int).Mul(big.NewInt(a[i]), big.NewInt(b[i]))
		sum.Add(sum, product)
		if !product.IsInt64() || !sum.IsInt64() {
			return 0, api.ErrOver
		}
	}
	return exact(sum)
}

// R4 and R6: Dot leaves its arguments as they are, and answers the same again.
func TestDotLeavesItsArguments(t *testing.T) {
	a, b := []int64{3, -4, top}, []int64{5, 6, 1}
	first, err := check.Dot(a, b)
	if !slices.Equal(a, []int64{3, -4, top}) || !slices.Equal(b, []int64{5, 6, 1}) {
		t.Errorf("Dot changed its arguments to %v and %v", a, b)
	}
	if again, errAgain := check.Dot(a, b); again != first || errAgain != err {
		t.Errorf("Dot = %d, %d, and then %d, %d", first, err, again, errAgain)
	}
	if n, err := check.Dot(a[:2], a[:2]); n != 25 || err != api.OK {
		t.Errorf("Dot of a list with itself = %d, %d; want 25", n, err)
	}
}

// P1.4: what a quotient leaves lies between 0 and the divisor, or its opposite.
func TestDivided(t *testing.T) {
	for _, a := range edges() {
		for _, b := range edges() {
			if q, err := check.Floor(a, b); err == api.OK {
				if rest := left(a, b, q); rest.Sign() != 0 && !between(rest, big.NewInt(b)) {
					t.Errorf("Floor(%d, %d) = %d leaves %s", a, b, q, rest)
				}
			}
			if q, err := check.Ceil(a, b); err == api.OK {
				if rest := left(a, b, q); rest.Sign() != 0 && !between(rest.Neg(rest), big.NewInt(b)) {
					t.Errorf("Ceil(%d, %d) = %d leaves the opposite of %s", a, b, q, rest)
				}
			}
		}
	}
}

// P1.4 speaks of quotients that there are: none is refused but by 0 and of -2^63 by -1.
func TestDividedIsNotEmpty(t *testing.T) {
	for _, a := range edges() {
		for _, b := range edges() {
			refused := b == 0 || a == low && b == -1
			if _, err := check.Floor(a, b); (err != api.OK) != refused {
				t.Errorf("Floor(%d, %d): %d", a, b, err)
			}
			if _, err := check.Ceil(a, b); (err != api.OK) != refused {
				t.Errorf("Ceil(%d, %d): %d", a, b, err)
			}
		}
	}
}

// left is a - q b.
func left(a, b, q int64) *big.Int {
	product := new(big.Int).Mul(big.NewInt(q), big.NewInt(b))
	return product.Sub(big.NewInt(a), product)
}

// between tells whether n lies strictly between 0 and end.
func between(n, end *big.Int) bool {
	return n.Sign() == end.Sign() && n.CmpAbs(end) < 0
}

// P1.5: Add and Mul do not mind the order, and Sub is Add of the opposite.
func TestOrder(t *testing.T) {
	for _, a := range edges() {
		for _, b := range edges() {
			n, err := check.Add(b, a)
			expect(t, "Add", check.Add, a, b, n, err)
			n, err = check.Mul(b, a)
			expect(t, "Mul", check.Mul, a, b, n, err)
			if b != low {
				n, err = check.Add(a, -b)
				expect(t, "Sub", check.Sub, a, b, n, err)
			}
		}
	}
}
