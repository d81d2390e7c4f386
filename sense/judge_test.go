package sense_test

import (
	"fmt"
	"slices"
	"testing"

	"touchstone/api"
	"touchstone/sense"
)

const (
	least    = -1 << 63
	greatest = 1<<63 - 1
	most     = 1048576
)

// A shape is what the chapters ask of the constraints of a Kind: how many X and A there are, which X
// are boolean ("none", "last" or "all"), which numbers A may be, and which C. The number of X is x,
// or more than x; that of A is times the number of X, and a more.
type shape struct {
	kind     int
	name     string
	x        int
	more     bool
	a, times int
	bools    string
	isA, isC func(n int64) bool
}

func inside(n int64) bool    { return -1048576 <= n && n <= 1048576 }
func isZero(n int64) bool    { return n == 0 }
func isSign(n int64) bool    { return n == 1 || n == -1 }
func isNatural(n int64) bool { return 0 <= n && n <= 1048576 }

// shapes are those of all Kinds; that of the Kind k stands at k - 1. Element has a rule of its own for A.
func shapes() []shape {
	return []shape{
		{1, "LinEq", 0, true, 0, 1, "none", inside, inside},
		{2, "LinLe", 0, true, 0, 1, "none", inside, inside},
		{3, "LinNe", 0, true, 0, 1, "none", inside, inside},
		{4, "LinEqReif", 1, true, -1, 1, "last", inside, inside},
		{5, "LinLeReif", 1, true, -1, 1, "last", inside, inside},
		{6, "LinLeImp", 1, true, -1, 1, "last", inside, inside},
		{7, "Times", 3, false, 0, 0, "none", nil, isZero},
		{8, "Min", 3, false, 0, 0, "none", nil, isZero},
		{9, "Max", 3, false, 0, 0, "none", nil, isZero},
		{10, "Abs", 2, false, 0, 0, "none", nil, isZero},
		{11, "Clause", 0, true, 0, 1, "all", isSign, isZero},
		{12, "And", 1, true, 0, 0, "all", nil, isZero},
		{13, "Or", 1, true, 0, 0, "all", nil, isZero},
		{14, "Xor", 3, false, 0, 0, "all", nil, isZero},
		{15, "Same", 2, false, 0, 0, "none", nil, isZero},
		{16, "Element", 2, false, 0, 0, "none", inside, isZero},
		{17, "VarElement", 3, true, 0, 0, "none", nil, isZero},
		{18, "AllDiff", 0, true, 0, 0, "none", nil, isZero},
		{19, "Cumulative", 0, true, 0, 2, "none", isNatural, isNatural},
	}
}

// counted tells whether constraints of this shape may have so many X and A.
func (s shape) counted(x, a int) bool {
	if x > 32 || a > 64 || x < s.x || x > s.x && !s.more {
		return false
	}
	if s.name == "Element" {
		return a >= 1
	}
	return a == s.times*x+s.a
}

// boolean tells whether the X at a place of n must be boolean.
func (s shape) boolean(place, n int) bool {
	return s.bools == "all" || s.bools == "last" && place == n-1
}

// formed tells whether c is well-formed for a.
func formed(c api.Con, a []int64) bool {
	if c.Kind < 1 || c.Kind > 19 {
		return false
	}
	s := shapes()[c.Kind-1]
	if !s.counted(len(c.X), len(c.A)) || !s.isC(c.C) {
		return false
	}
	for _, n := range c.A {
		if !s.isA(n) {
			return false
		}
	}
	for place, x := range c.X {
		if x < 0 || x >= len(a) || !inside(a[x]) {
			return false
		}
		if s.boolean(place, len(c.X)) && a[x] != 0 && a[x] != 1 {
			return false
		}
	}
	return true
}

// judged is what Holds is to answer, told by the chapter's own words.
func judged(c api.Con, a []int64) bool {
	if !formed(c, a) {
		return false
	}
	var v []int64
	for _, x := range c.X {
		v = append(v, a[x])
	}
	return meant(c, v)
}

// meant tells whether a constraint holds for the values v of its X.
func meant(c api.Con, v []int64) bool {
	sum := judgedSum(c, v)
	flag := len(v) > 0 && v[len(v)-1] == 1
	ones := 0
	for _, b := range v {
		ones += int(b & 1)
	}
	switch shapes()[c.Kind-1].name {
	case "LinEq":
		return sum == c.C
	case "LinLe":
		return sum <= c.C
	case "LinNe":
		return sum < c.C || sum > c.C
	case "LinEqReif":
		return flag && sum == c.C || !flag && sum != c.C
	case "LinLeReif":
		return flag && sum <= c.C || !flag && sum > c.C
	case "LinLeImp":
		return !flag || sum <= c.C
	case "Times":
		return v[2] == v[0]*v[1]
	case "Min":
		return v[2] <= v[0] && v[2] <= v[1] && (v[2] == v[0] || v[2] == v[1])
	case "Max":
		return v[2] >= v[0] && v[2] >= v[1] && (v[2] == v[0] || v[2] == v[1])
	case "Abs":
		return v[1] >= 0 && (v[1] == v[0] || v[1] == -v[0])
	case "And":
		return flag && ones == len(v) || !flag && ones < len(v)-1
	case "Or":
		return flag && ones > 1 || !flag && ones == 0
	case "Xor":
		return ones == 0 || ones == 2
	case "Same":
		return v[0]-v[1] == 0
	}
	return meantOfMany(c, v)
}

// meantOfMany is meant for the Kinds whose values are gone through.
func meantOfMany(c api.Con, v []int64) bool {
	switch shapes()[c.Kind-1].name {
	case "Clause":
		for i := range v {
			if c.A[i] == 1 && v[i] == 1 || c.A[i] == -1 && v[i] == 0 {
				return true
			}
		}
		return false
	case "Element":
		for i, n := range c.A {
			if v[0] == int64(i+1) {
				return n == v[1]
			}
		}
		return false
	case "VarElement":
		for i := 1; i < len(v)-1; i++ {
			if v[0] == int64(i) {
				return v[i] == v[len(v)-1]
			}
		}
		return false
	case "AllDiff":
		seen := map[int64]bool{}
		for _, n := range v {
			seen[n] = true
		}
		return len(seen) == len(v)
	}
	return judgedTasks(c, v)
}

// judgedSum adds each product to the sum by adding the value, or taking it away, where the number is small.
func judgedSum(c api.Con, v []int64) int64 {
	if c.Kind > 6 {
		return 0
	}
	sum := int64(0)
	for i, n := range c.A {
		if n > 3 || n < -3 {
			sum += n * v[i]
			continue
		}
		for range max(n, -n) {
			if n > 0 {
				sum += v[i]
			} else {
				sum -= v[i]
			}
		}
	}
	return sum
}

// judgedTasks asks for every time from the first start to the last end, as many as there are.
func judgedTasks(c api.Con, v []int64) bool {
	n := len(v)
	if n == 0 {
		return true
	}
	end := int64(least)
	for i := range n {
		end = max(end, v[i]+c.A[i])
	}
	for t := slices.Min(v) - 1; t <= end; t++ {
		need := int64(0)
		for i := range n {
			if v[i] <= t && t < v[i]+c.A[i] {
				need += c.A[n+i]
			}
		}
		if need > c.C {
			return false
		}
	}
	return true
}

// told writes a constraint and values down, not at any length.
func told(c api.Con, a []int64) string {
	name := fmt.Sprint(c.Kind)
	if c.Kind >= 1 && c.Kind <= 19 {
		name = shapes()[c.Kind-1].name
	}
	return fmt.Sprintf("%.600s", fmt.Sprintf("%s, X %v, A %v, C %d, for %v", name, c.X, c.A, c.C, a))
}

func expectHolds(t *testing.T, c api.Con, a []int64, want bool) {
	t.Helper()
	if got := sense.Holds(c, a); got != want {
		t.Errorf("Holds(%s) = %v", told(c, a), got)
	}
}

// expectFormed holds both Holds and Sum against a constraint that holds just if it is well-formed.
func expectFormed(t *testing.T, c api.Con, a []int64, want bool) {
	t.Helper()
	expectHolds(t, c, a, want)
	n, ok := sense.Sum(c, a)
	if ok != (want && c.Kind <= api.LinLeImp) || !ok && n != 0 {
		t.Errorf("Sum(%s) = %d, %v", told(c, a), n, ok)
	}
}

// expectJudged holds Holds against the judge.
func expectJudged(t *testing.T, c api.Con, a []int64) {
	t.Helper()
	expectHolds(t, c, a, judged(c, a))
}

// places are the first n variables.
func places(n int) []int {
	var l []int
	for i := range n {
		l = append(l, i)
	}
	return l
}

// con is a constraint on the first n variables.
func con(kind, n int, c int64, a ...int64) api.Con {
	return api.Con{Kind: kind, X: places(n), A: a, C: c}
}

// same are n equal numbers.
func same(n int, v int64) []int64 {
	return slices.Repeat([]int64{v}, n)
}

// eachRow goes through all rows of n numbers from lo to hi; a row is there till the next one.
func eachRow(n int, lo, hi int64, do func(row []int64)) {
	row := same(n, lo)
	for {
		do(row)
		i := 0
		for i < n && row[i] == hi {
			row[i] = lo
			i++
		}
		if i == n {
			return
		}
		row[i]++
	}
}

// eachOf goes through all rows of n of these numbers.
func eachOf(n int, numbers []int64, do func(row []int64)) {
	eachRow(n, 0, int64(len(numbers))-1, func(places []int64) {
		var row []int64
		for _, p := range places {
			row = append(row, numbers[p])
		}
		do(row)
	})
}
