package arith_test

import (
	"slices"
	"testing"

	"touchstone/api"
)

// P14.1: the chapter's examples.
func TestExamples(t *testing.T) {
	expectRows(t, con(api.Times), []row{
		{[]list{ranges(2, 3), ranges(4, 5), ranges(0, 12)}, []list{ranges(2, 3), ranges(4, 5), ranges(8, 12)}},
		{[]list{ranges(0, 9), ranges(2, 3), ranges(7, 8)}, []list{ranges(3, 4), one(2), ranges(7, 8)}},
	})
	expectRows(t, con(api.Min), []row{
		{[]list{ranges(5, 9), ranges(0, 9), ranges(0, 3)}, []list{ranges(5, 9), ranges(0, 3), ranges(0, 3)}},
	})
	expectRows(t, con(api.Abs), []row{
		{[]list{ranges(-3, 5), ranges(4, 9)}, []list{ranges(4, 5), ranges(4, 5)}},
	})
}

// P14.1: all small domains of three variables.
func TestSmallOfThree(t *testing.T) {
	factors := append(domainsFrom(-2, 4), ranges(-3, 2), ranges(2, 3), ranges(-3, -3, 3, 3), ranges(3, 3, 5, 5), ranges(-5, -3))
	results := append(domainsFrom(-2, 5), rangesWithin(-7, 7)...)
	results = append(results, ranges(-9, -5, 5, 9), ranges(-6, -6, 6, 6, 9, 9), ranges(-9, -1, 1, 9))
	for _, kind := range ofThree() {
		for _, x := range factors {
			for _, y := range factors {
				for _, z := range results {
					expectJudged(t, con(kind), []list{x, y, z})
				}
			}
		}
	}
}

// P14.1: all small domains of two variables.
func TestSmallOfTwo(t *testing.T) {
	domains := append(domainsFrom(-3, 7), rangesWithin(-6, 6)...)
	for _, kind := range ofTwo() {
		for _, x := range domains {
			for _, y := range domains {
				expectJudged(t, con(kind), []list{x, y})
			}
		}
	}
}

// P14.1: one variable stands at two positions, or at all of them.
func TestSharedVariables(t *testing.T) {
	domains := append(domainsFrom(-2, 6), rangesWithin(-5, 5)...)
	domains = append(domains, ranges(-9, 9), ranges(-9, -4, 3, 9), ranges(-4, -4, 9, 9))
	for _, first := range domains {
		for _, kind := range ofThree() {
			expectJudged(t, on(kind, 0, 0, 0), []list{first})
			for _, second := range domains {
				expectJudged(t, on(kind, 0, 0, 1), []list{first, second})
				expectJudged(t, on(kind, 0, 1, 0), []list{first, second})
				expectJudged(t, on(kind, 1, 0, 0), []list{first, second})
			}
		}
		for _, kind := range ofTwo() {
			expectJudged(t, on(kind, 0, 0), []list{first})
		}
	}
	// Each step asks for the ends that the steps before it have left.
	expectRows(t, on(api.Times, 0, 0, 1), []row{
		{[]list{ranges(2, 9), ranges(10, 30)}, []list{ranges(2, 9), ranges(10, 30)}},
		{[]list{ranges(6, 9), ranges(0, 50)}, []list{ranges(6, 8), ranges(36, 50)}},
	})
	expectRows(t, on(api.Times, 0, 1, 0), []row{
		{[]list{ranges(2, 9), ranges(2, 9)}, nil},
		{[]list{ranges(1, 9), ranges(0, 9)}, []list{ranges(1, 9), ranges(1, 9)}},
		{[]list{ranges(2, 9), ranges(0, 3)}, []list{ranges(2, 9), ranges(1, 3)}},
	})
	expectRows(t, on(api.Abs, 0, 0), []row{
		{[]list{ranges(-5, 3)}, []list{ranges(0, 3)}},
		{[]list{ranges(-5, -1)}, nil},
		{[]list{ranges(-5, -3, 2, 9)}, []list{ranges(2, 9)}},
	})
	expectRows(t, on(api.Min, 0, 1, 0), []row{{[]list{ranges(0, 9), ranges(2, 4)}, []list{ranges(0, 4), ranges(2, 4)}}})
	expectRows(t, on(api.Max, 0, 1, 0), []row{{[]list{ranges(0, 9), ranges(2, 4)}, []list{ranges(2, 9), ranges(2, 4)}}})
	expectRows(t, on(api.Same, 0, 0), []row{{[]list{ranges(0, 1, 5, 9)}, []list{ranges(0, 1, 5, 9)}}})
}

// P14.1: z is cut to the products, whichever of the ends they are of.
func TestProducts(t *testing.T) {
	wide := ranges(-99, 99)
	for _, p := range []struct{ x, y, z list }{
		{ranges(2, 3), ranges(4, 5), ranges(8, 15)},
		{ranges(-3, -2), ranges(4, 5), ranges(-15, -8)},
		{ranges(-3, -2), ranges(-5, -4), ranges(8, 15)},
		{ranges(2, 3), ranges(-5, 4), ranges(-15, 12)},
		{ranges(-3, -2), ranges(-5, 4), ranges(-12, 15)},
		{ranges(-2, 3), ranges(4, 5), ranges(-10, 15)},
		{ranges(-2, 3), ranges(-5, -4), ranges(-15, 10)},
		{ranges(-2, 3), ranges(-5, 4), ranges(-15, 12)},
		{ranges(-3, 2), ranges(-5, 4), ranges(-12, 15)},
		{ranges(-1, 9), ranges(-8, 2), ranges(-72, 18)},
		{one(0), ranges(-8, 2), one(0)},
		{ranges(0, 3), ranges(0, 7), ranges(0, 21)},
		{ranges(-3, -3, 4, 4), ranges(7, 7, 9, 9), ranges(-27, 36)},
	} {
		expectNarrow(t, con(api.Times), []list{p.x, p.y, wide}, []list{p.x, p.y, p.z}, api.OK)
		expectNarrow(t, con(api.Times), []list{p.y, p.x, wide}, []list{p.y, p.x, p.z}, api.OK)
		lo, hi := p.z[0].Lo, p.z[0].Hi
		expectNarrow(t, con(api.Times), []list{p.x, p.y, ranges(-99, lo-1)}, nil, api.ErrFail)
		expectNarrow(t, con(api.Times), []list{p.x, p.y, ranges(hi+1, 99)}, nil, api.ErrFail)
		expectNarrow(t, con(api.Times), []list{p.x, p.y, ranges(-99, lo-1, hi+1, 99)}, nil, api.ErrFail)
	}
}

// P14.1: x and y lose 0 if it is no value of z, even within ends that it lies between.
func TestZeroIsLost(t *testing.T) {
	full, split := ranges(-2, 2), ranges(-2, -1, 1, 2)
	expectRows(t, con(api.Times), []row{
		{[]list{full, full, ranges(-4, 4)}, []list{full, full, ranges(-4, 4)}},
		{[]list{full, full, ranges(-4, -1, 1, 4)}, []list{split, split, ranges(-4, -1, 1, 4)}},
		{[]list{full, full, ranges(1, 9)}, []list{split, split, ranges(1, 4)}},
		{[]list{full, full, ranges(-4, -4, 4, 4)}, []list{split, split, ranges(-4, -4, 4, 4)}},
		{[]list{one(0), full, ranges(-4, -1, 1, 4)}, nil},
		{[]list{full, one(0), ranges(-4, -1, 1, 4)}, nil},
		{[]list{one(0), one(0), ranges(-1, 1)}, []list{one(0), one(0), one(0)}},
		{[]list{one(0), full, ranges(-4, 4)}, []list{one(0), full, one(0)}},
		// What has lost its end 0 keeps to one side of it, and divides.
		{[]list{ranges(0, 9), ranges(0, 2), ranges(5, 7)}, []list{ranges(3, 7), ranges(1, 2), ranges(5, 7)}},
		{[]list{ranges(-9, 9), ranges(-2, 0), ranges(5, 7)}, []list{ranges(-7, -3), ranges(-2, -1), ranges(5, 7)}},
	})
}

// P14.1: the quotients are rounded up for the lower end, down for the upper one; nothing is divided by what may be 0.
func TestQuotients(t *testing.T) {
	x := ranges(-99, 99)
	for _, q := range []struct{ y, z, want list }{
		{one(3), ranges(7, 11), one(3)},
		{one(3), ranges(6, 12), ranges(2, 4)},
		{one(3), ranges(-11, -7), one(-3)},
		{one(-3), ranges(7, 11), one(-3)},
		{one(-3), ranges(-11, -7), one(3)},
		{one(3), ranges(-11, 11), ranges(-3, 3)},
		{ranges(2, 3), ranges(7, 11), ranges(3, 5)},
		{ranges(-3, -2), ranges(7, 11), ranges(-5, -3)},
		{ranges(-3, -2), ranges(-11, -7), ranges(3, 5)},
		{ranges(2, 3), ranges(-11, 7), ranges(-5, 3)},
		{ranges(-3, -2), ranges(-11, 7), ranges(-3, 5)},
		{ranges(1, 3), ranges(0, 7), ranges(0, 7)},
		{ranges(1, 1, 3, 3), ranges(-7, 7), ranges(-7, 7)},
	} {
		expectNarrow(t, con(api.Times), []list{x, q.y, q.z}, []list{q.want, q.y, q.z}, api.OK)
		expectNarrow(t, con(api.Times), []list{q.y, x, q.z}, []list{q.y, q.want, q.z}, api.OK)
	}
	expectRows(t, con(api.Times), []row{
		// No whole number is between 5 / 3 and 5 / 3, nor between 4 / 3 and 5 / 3.
		{[]list{ranges(-9, 9), one(3), one(5)}, nil},
		{[]list{one(3), ranges(-9, 9), one(5)}, nil},
		{[]list{ranges(-9, 9), one(-3), ranges(4, 5)}, nil},
		// The ends of y lie on both sides of 0, whatever is between them.
		{[]list{ranges(-9, 9), ranges(-1, 1), ranges(5, 6)}, []list{ranges(-9, -1, 1, 9), ranges(-1, -1, 1, 1), ranges(5, 6)}},
		{[]list{ranges(-9, 9), ranges(0, 1), ranges(0, 3)}, []list{ranges(-9, 9), ranges(0, 1), ranges(0, 3)}},
		{[]list{ranges(-9, 9), ranges(-1, 0), ranges(0, 3)}, []list{ranges(-9, 9), ranges(-1, 0), ranges(0, 3)}},
		// x is cut by y first, and y by what is left of x; x is not cut again by what is left of y then.
		{[]list{ranges(1, 9), ranges(2, 9), ranges(1, 9)}, []list{ranges(1, 4), ranges(2, 9), ranges(2, 9)}},
		{[]list{ranges(2, 9), ranges(1, 9), ranges(1, 9)}, []list{ranges(2, 9), ranges(1, 4), ranges(2, 9)}},
		{[]list{ranges(-9, 4), ranges(1, 9), ranges(6, 8)}, []list{ranges(1, 4), ranges(2, 8), ranges(6, 8)}},
		{[]list{ranges(3, 9), ranges(2, 3, 9, 9), ranges(7, 8)}, []list{ranges(3, 4), one(2), ranges(7, 8)}},
	})
}

// P14.1: Min, step by step.
func TestMin(t *testing.T) {
	wide := ranges(-20, 20)
	expectRows(t, con(api.Min), []row{
		{[]list{ranges(1, 4), ranges(2, 9), wide}, []list{ranges(1, 4), ranges(2, 9), ranges(1, 4)}},
		{[]list{ranges(2, 9), ranges(1, 4), wide}, []list{ranges(2, 9), ranges(1, 4), ranges(1, 4)}},
		{[]list{ranges(1, 9), ranges(2, 4), wide}, []list{ranges(1, 9), ranges(2, 4), ranges(1, 4)}},
		{[]list{one(4), one(9), wide}, []list{one(4), one(9), one(4)}},
		// Both lose what is below z, and nothing that is above it.
		{[]list{wide, wide, ranges(3, 5)}, []list{ranges(3, 20), ranges(3, 20), ranges(3, 5)}},
		{[]list{ranges(0, 9), ranges(1, 8), ranges(-9, -9, 2, 3)}, []list{ranges(2, 9), ranges(2, 8), ranges(2, 3)}},
		// One that is above z leaves it to the other, but not if both can be.
		{[]list{ranges(6, 9), ranges(0, 9), ranges(0, 5)}, []list{ranges(6, 9), ranges(0, 5), ranges(0, 5)}},
		{[]list{ranges(0, 9), ranges(6, 9), ranges(0, 5)}, []list{ranges(0, 5), ranges(6, 9), ranges(0, 5)}},
		{[]list{ranges(5, 9), ranges(0, 9), ranges(0, 5)}, []list{ranges(5, 9), ranges(0, 9), ranges(0, 5)}},
		{[]list{ranges(0, 9), ranges(5, 9), ranges(0, 5)}, []list{ranges(0, 9), ranges(5, 9), ranges(0, 5)}},
		{[]list{ranges(0, 2, 7, 9), ranges(0, 9), ranges(3, 5)}, []list{ranges(7, 9), ranges(3, 5), ranges(3, 5)}},
		{[]list{ranges(0, 9), ranges(0, 2, 7, 9), ranges(3, 5)}, []list{ranges(3, 5), ranges(7, 9), ranges(3, 5)}},
		// z above or below both, a gap around it, both above it.
		{[]list{ranges(5, 9), ranges(5, 9), ranges(0, 3)}, nil},
		{[]list{ranges(0, 3), ranges(0, 9), ranges(4, 9)}, nil},
		{[]list{ranges(0, 2, 7, 9), ranges(0, 1, 8, 9), ranges(3, 5)}, nil},
		{[]list{ranges(0, 2, 7, 9), ranges(3, 3, 6, 6), ranges(4, 5)}, nil},
		{[]list{ranges(0, 3), wide, ranges(-9, -1, 4, 9)}, []list{ranges(0, 3), ranges(-9, -1), ranges(-9, -1)}},
	})
}

// P14.1: Max, step by step.
func TestMax(t *testing.T) {
	wide := ranges(-20, 20)
	expectRows(t, con(api.Max), []row{
		{[]list{ranges(0, 2), ranges(0, 9), ranges(4, 20)}, []list{ranges(0, 2), ranges(4, 9), ranges(4, 9)}},
		{[]list{ranges(1, 4), ranges(2, 9), wide}, []list{ranges(1, 4), ranges(2, 9), ranges(2, 9)}},
		{[]list{ranges(2, 9), ranges(1, 4), wide}, []list{ranges(2, 9), ranges(1, 4), ranges(2, 9)}},
		{[]list{ranges(1, 9), ranges(2, 4), wide}, []list{ranges(1, 9), ranges(2, 4), ranges(2, 9)}},
		{[]list{one(4), one(9), wide}, []list{one(4), one(9), one(9)}},
		// Both lose what is above z, and nothing that is below it.
		{[]list{wide, wide, ranges(3, 5)}, []list{ranges(-20, 5), ranges(-20, 5), ranges(3, 5)}},
		{[]list{ranges(0, 9), ranges(1, 8), ranges(6, 7, 10, 10)}, []list{ranges(0, 7), ranges(1, 7), ranges(6, 7)}},
		// One that is below z leaves it to the other, but not if both can be.
		{[]list{ranges(0, 3), ranges(0, 9), ranges(4, 9)}, []list{ranges(0, 3), ranges(4, 9), ranges(4, 9)}},
		{[]list{ranges(0, 9), ranges(0, 3), ranges(4, 9)}, []list{ranges(4, 9), ranges(0, 3), ranges(4, 9)}},
		{[]list{ranges(0, 4), ranges(0, 9), ranges(4, 9)}, []list{ranges(0, 4), ranges(0, 9), ranges(4, 9)}},
		{[]list{ranges(0, 9), ranges(0, 4), ranges(4, 9)}, []list{ranges(0, 9), ranges(0, 4), ranges(4, 9)}},
		{[]list{ranges(0, 2, 7, 9), ranges(0, 9), ranges(4, 6)}, []list{ranges(0, 2), ranges(4, 6), ranges(4, 6)}},
		{[]list{ranges(0, 9), ranges(0, 2, 7, 9), ranges(4, 6)}, []list{ranges(4, 6), ranges(0, 2), ranges(4, 6)}},
		// z above or below both, a gap around it, both below it.
		{[]list{ranges(0, 3), ranges(0, 3), ranges(4, 9)}, nil},
		{[]list{ranges(5, 9), ranges(0, 9), ranges(0, 4)}, nil},
		{[]list{ranges(0, 2, 7, 9), ranges(0, 1, 8, 9), ranges(4, 6)}, nil},
		{[]list{ranges(0, 2, 7, 9), ranges(3, 3, 6, 6), ranges(4, 5)}, nil},
		{[]list{ranges(0, 3), wide, ranges(-9, -1, 4, 9)}, []list{ranges(0, 3), ranges(4, 9), ranges(4, 9)}},
	})
}

// P14.1: Abs, step by step.
func TestAbs(t *testing.T) {
	wide := ranges(-20, 20)
	expectRows(t, con(api.Abs), []row{
		{[]list{ranges(-3, 5), wide}, []list{ranges(-3, 5), ranges(0, 5)}},
		{[]list{ranges(-5, 3), wide}, []list{ranges(-5, 3), ranges(0, 5)}},
		{[]list{ranges(2, 5), wide}, []list{ranges(2, 5), ranges(2, 5)}},
		{[]list{ranges(-5, -2), wide}, []list{ranges(-5, -2), ranges(2, 5)}},
		{[]list{ranges(0, 5), wide}, []list{ranges(0, 5), ranges(0, 5)}},
		{[]list{ranges(-5, 0), wide}, []list{ranges(-5, 0), ranges(0, 5)}},
		{[]list{one(0), wide}, []list{one(0), one(0)}},
		// Only the ends of x are asked, whatever it lacks between them.
		{[]list{ranges(-5, -3, 4, 6), ranges(0, 9)}, []list{ranges(-5, -3, 4, 6), ranges(0, 6)}},
		// x keeps between y's greatest value and its opposite, and at least y's least value away from 0.
		{[]list{wide, ranges(0, 4)}, []list{ranges(-4, 4), ranges(0, 4)}},
		{[]list{wide, ranges(1, 4)}, []list{ranges(-4, -1, 1, 4), ranges(1, 4)}},
		{[]list{wide, ranges(2, 4)}, []list{ranges(-4, -2, 2, 4), ranges(2, 4)}},
		{[]list{wide, ranges(2, 2, 4, 4)}, []list{ranges(-4, -2, 2, 4), ranges(2, 2, 4, 4)}},
		{[]list{wide, one(4)}, []list{ranges(-4, -4, 4, 4), one(4)}},
		{[]list{ranges(-9, 2), ranges(3, 5)}, []list{ranges(-5, -3), ranges(3, 5)}},
		{[]list{ranges(-2, 9), ranges(3, 5)}, []list{ranges(3, 5), ranges(3, 5)}},
		{[]list{ranges(-7, -2), ranges(0, 3)}, []list{ranges(-3, -2), ranges(2, 3)}},
		{[]list{ranges(-7, -6, -4, -1, 1, 2, 8, 8), ranges(-3, 1, 3, 6)}, []list{ranges(-6, -6, -4, -1, 1, 2), ranges(0, 1, 3, 6)}},
		// y is negative, too small, too great, or without what x has.
		{[]list{ranges(0, 5), ranges(-4, -1)}, nil},
		{[]list{ranges(3, 5), ranges(0, 2)}, nil},
		{[]list{ranges(-5, -3), ranges(0, 2)}, nil},
		{[]list{ranges(-5, 5), ranges(6, 9)}, nil},
		{[]list{ranges(-9, -9, 9, 9), ranges(0, 8)}, nil},
		{[]list{ranges(-7, -7, -2, 3, 7, 7), ranges(4, 6)}, nil},
		{[]list{ranges(4, 6), ranges(0, 3, 7, 9)}, nil},
	})
}

// P14.1: Same asks for each value, not for the ends alone.
func TestSame(t *testing.T) {
	gaps := ranges(-4, 1, 3, 9)
	expectRows(t, con(api.Same), []row{
		{[]list{ranges(0, 5), gaps}, []list{ranges(0, 1, 3, 5), ranges(0, 1, 3, 5)}},
		{[]list{gaps, ranges(0, 5)}, []list{ranges(0, 1, 3, 5), ranges(0, 1, 3, 5)}},
		{[]list{gaps, gaps}, []list{gaps, gaps}},
		{[]list{ranges(0, 3), ranges(3, 9)}, []list{one(3), one(3)}},
		{[]list{one(3), one(3)}, []list{one(3), one(3)}},
		{[]list{ranges(0, 0, 2, 2, 4, 4), ranges(1, 2, 4, 5)}, []list{ranges(2, 2, 4, 4), ranges(2, 2, 4, 4)}},
		{[]list{ranges(0, 1), ranges(2, 3)}, nil},
		{[]list{ranges(2, 3), ranges(0, 1)}, nil},
		{[]list{one(2), gaps}, nil},
		{[]list{ranges(0, 0, 2, 2, 4, 4), ranges(1, 1, 3, 3, 5, 5)}, nil},
	})
}

// P14.1: X tells which variables are x, y and z; all others keep what they have.
func TestPlaces(t *testing.T) {
	others := ranges(-20, -8, -6, 20)
	for _, p := range [][]int{{0, 1, 2}, {0, 2, 1}, {2, 1, 0}, {5, 3, 1}, {1, 5, 3}, {4, 0, 5}} {
		expect := func(kind int, given, want []list) {
			t.Helper()
			d := slices.Repeat([]list{others}, 6)
			narrowed := slices.Clone(d)
			for i := range given {
				d[p[i]], narrowed[p[i]] = given[i], want[i]
			}
			expectNarrow(t, on(kind, p[:len(given)]...), d, narrowed, api.OK)
		}
		expect(api.Times, []list{ranges(0, 9), ranges(2, 3), ranges(7, 8)}, []list{ranges(3, 4), one(2), ranges(7, 8)})
		expect(api.Min, []list{ranges(5, 9), ranges(-2, 9), ranges(0, 3)}, []list{ranges(5, 9), ranges(0, 3), ranges(0, 3)})
		expect(api.Max, []list{ranges(0, 2), ranges(0, 30), ranges(4, 20)}, []list{ranges(0, 2), ranges(4, 20), ranges(4, 20)})
		expect(api.Abs, []list{ranges(-3, 5), ranges(4, 9)}, []list{ranges(4, 5), ranges(4, 5)})
		expect(api.Same, []list{ranges(-3, 5), ranges(4, 9)}, []list{ranges(4, 5), ranges(4, 5)})
	}
}
