package arith

import (
	"slices"

	"touchstone/api"
	"touchstone/check"
	"touchstone/set"
)

// Each of these takes the steps of its Kind, in order, on the domains of a constraint's variables,
// which are not empty; false as soon as one of them is.

func times(x, y, z *domain) bool {
	products := fourOf(check.Mul, x, y)
	return z.cut(slices.Min(products[:]), slices.Max(products[:])) &&
		(z.has(0) || x.lose(0) && y.lose(0)) &&
		factor(x, y, z) &&
		factor(y, x, z)
}

// factor cuts x to the quotients of z by y, if y's ends keep to one side of 0.
func factor(x, y, z *domain) bool {
	if y.lo() <= 0 && y.hi() >= 0 {
		return true
	}
	up, down := fourOf(check.Ceil, z, y), fourOf(check.Floor, z, y)
	return x.cut(slices.Min(up[:]), slices.Max(down[:]))
}

// fourOf returns what of answers for each end of a with each end of b. Ends are too small to overflow,
// and nothing is divided by 0, so that of has no error to tell.
func fourOf(of func(a, b int64) (int64, api.Errno), a, b *domain) [4]int64 {
	var four [4]int64
	four[0], _ = of(a.lo(), b.lo())
	four[1], _ = of(a.lo(), b.hi())
	four[2], _ = of(a.hi(), b.lo())
	four[3], _ = of(a.hi(), b.hi())
	return four
}

// One of x and y that is too great for z leaves it to the other to be the minimum.
func minimum(x, y, z *domain) bool {
	return z.cut(min(x.lo(), y.lo()), min(x.hi(), y.hi())) &&
		x.atLeast(z.lo()) &&
		y.atLeast(z.lo()) &&
		(x.lo() <= z.hi() || y.atMost(z.hi())) &&
		(y.lo() <= z.hi() || x.atMost(z.hi()))
}

// One of x and y that is too small for z leaves it to the other to be the maximum.
func maximum(x, y, z *domain) bool {
	return z.cut(max(x.lo(), y.lo()), max(x.hi(), y.hi())) &&
		x.atMost(z.hi()) &&
		y.atMost(z.hi()) &&
		(x.hi() >= z.lo() || y.atLeast(z.lo())) &&
		(y.hi() >= z.lo() || x.atLeast(z.lo()))
}

func absolute(x, y *domain) bool {
	return y.cut(0, max(x.hi(), -x.lo())) &&
		(x.lo() <= 0 || y.atLeast(x.lo())) &&
		(x.hi() >= 0 || y.atLeast(-x.hi())) &&
		x.cut(-y.hi(), y.hi()) &&
		(y.lo() <= 0 || x.loseNearer(y.lo()))
}

func same(x, y *domain) bool {
	x.values = set.Meet(x.values, y.values)
	y.values = slices.Clone(x.values)
	return len(x.values) > 0
}
