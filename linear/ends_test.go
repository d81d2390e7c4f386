package linear_test

import (
	"math/rand/v2"
	"slices"
	"testing"

	"touchstone/api"
	"touchstone/linear"
)

// flagged is a constraint on the first variables, one more than there are numbers.
func flagged(kind int, c int64, a ...int64) api.Con {
	return on(places(len(a)+1), kind, c, a...)
}

// P12.2: each Kind that has a sum, whatever C is.
func TestEndsOfKinds(t *testing.T) {
	d := []list{ranges(0, 5), ranges(0, 1, 4, 9), ranges(0, 1)}
	for _, c := range []int64{-most, -1, 0, 3, most} {
		for kind := api.LinEq; kind <= api.LinNe; kind++ {
			expectEnds(t, con(kind, c, 2, -1), d, -9, 10, true)
			expectEnds(t, con(kind, c, -2, 1), d, -10, 9, true)
			expectEnds(t, con(kind, c, 2, -1, 1), d, -9, 11, true)
			expectEnds(t, con(kind, c, 0, 0), d, 0, 0, true)
			expectEnds(t, con(kind, c), d, 0, 0, true)
			expectEnds(t, con(kind, c), nil, 0, 0, true)
			expectEnds(t, on([]int{1, 1}, kind, c, 1, -1), d, -9, 9, true)
			expectEnds(t, on([]int{1, 1}, kind, c, 1, 2), d, 0, 27, true)
			expectEnds(t, flagged(kind, c, 2, -1), d, 0, 0, false)
		}
		for kind := api.LinEqReif; kind <= api.LinLeImp; kind++ {
			expectEnds(t, flagged(kind, c, 2, -1), d, -9, 10, true)
			expectEnds(t, flagged(kind, c, -2, 1), d, -10, 9, true)
			expectEnds(t, on([]int{2}, kind, c), d, 0, 0, true)
			expectEnds(t, on([]int{2, 1, 2}, kind, c, 1, 1), d, 0, 10, true)
			expectEnds(t, con(kind, c, 2, -1), d, 0, 0, false)
			expectEnds(t, on([]int{0, 1}, kind, c, 1), d, 0, 0, false)
		}
	}
}

// P12.2: the ends of all small sums are those of the sums of all values.
func TestEndsOfSmallSums(t *testing.T) {
	domains := domainsFrom(-2, 4)
	eachRow(2, -2, 2, func(a []int64) {
		for _, first := range domains {
			for _, second := range domains {
				d := []list{first, second, ranges(1, 1)}
				var sums []int64
				for _, v := range valuesOf(d)[0] {
					for _, w := range valuesOf(d)[1] {
						sums = append(sums, a[0]*v+a[1]*w)
					}
				}
				expectEnds(t, con(api.LinNe, 7, a...), d, slices.Min(sums), slices.Max(sums), true)
				expectEnds(t, flagged(api.LinLeReif, 7, a...), d, slices.Min(sums), slices.Max(sums), true)
			}
		}
	})
}

// P12.2: the greatest sums that there are.
func TestEndsOfGreatSums(t *testing.T) {
	d := []list{ranges(-most, most), ranges(most, most), ranges(-most, -most), ranges(1, 1)}
	for n := range 33 {
		for x, ends := range [][2]int64{{-most, most}, {most, most}, {-most, -most}} {
			variables, numbers := slices.Repeat([]int{x}, n), slices.Repeat([]int64{most}, n)
			lo, hi := int64(n)*most*ends[0], int64(n)*most*ends[1]
			expectEnds(t, on(variables, api.LinEq, 0, numbers...), d, lo, hi, true)
			expectEnds(t, on(variables, api.LinEq, 0, minus(numbers)...), d, -hi, -lo, true)
			if n < 32 {
				expectEnds(t, on(append(variables, 3), api.LinEqReif, 0, numbers...), d, lo, hi, true)
			} else {
				expectEnds(t, on(append(variables, 3), api.LinEqReif, 0, numbers...), d, 0, 0, false)
			}
		}
	}
	expectEnds(t, con(api.LinLe, 0, 65536), []list{ranges(65536, 65537)}, 1<<32, 1<<32+65536, true)
}

// P12.2: Kinds from LinEq to LinLeImp only, those beside them not, nor numbers that are no Kind.
func TestEndsOfOthers(t *testing.T) {
	d := []list{ranges(1, 1), ranges(0, 1), ranges(0, 0)}
	for kind := -2; kind <= 21; kind++ {
		for _, x := range [][]int{nil, {1}, {1, 1}, {0, 1, 2}} {
			for _, a := range [][]int64{nil, {1}, {1, 1}, {1, 1, 1}} {
				_, ok := linear.Ends(on(x, kind, 0, a...), d)
				plain := kind >= 1 && kind <= 3 && len(a) == len(x)
				reified := kind >= 4 && kind <= 6 && len(a)+1 == len(x)
				if ok != (plain || reified) {
					t.Errorf("Ends(Kind %d, X %v, A %v) = %v", kind, x, a, ok)
				}
				if !ok {
					expectEnds(t, on(x, kind, 0, a...), d, 0, 0, false)
				}
			}
		}
	}
}

// P12.1, P12.2: a sum's ends are those that LinLe fails below, and takes nothing above.
func TestEndsAndNarrow(t *testing.T) {
	random := rand.New(rand.NewPCG(12, 2))
	for range 3000 {
		c, d := chance(random, api.LinLe, random.IntN(5), 40)
		ends, ok := linear.Ends(c, d)
		if !ok {
			t.Fatalf("no Ends(%s)", told(c, d))
		}
		c.C = ends.Hi
		expectNarrow(t, c, d, d, api.OK)
		c.C = ends.Lo - 1
		expectNarrow(t, c, d, nil, api.ErrFail)
	}
}
