package sense_test

import (
	"math/rand/v2"
	"slices"
	"testing"

	"touchstone/api"
	"touchstone/sense"
)

// holding is a constraint with so many X and A, and values for which it holds, if it may have so many
// of them. (There is none for a Clause of nothing.)
func holding(kind, x, a int) (api.Con, []int64) {
	c, v := con(kind, x, 0, same(a, 1)...), same(x, 1)
	switch kind {
	case api.LinEq, api.LinLe, api.LinEqReif, api.LinLeReif, api.LinLeImp:
		c.C = int64(a)
	case api.LinNe:
		c.C = -1
	case api.Or:
		v[x-1] = min(1, int64(x-1))
	case api.Xor:
		v[x-1] = 0
	case api.AllDiff:
		for i := range v {
			v[i] = int64(i)
		}
	case api.Cumulative:
		c.C = most
	}
	return c, v
}

// samples are a constraint of each Kind, and values for which it holds.
func samples() ([]api.Con, [][]int64) {
	var cons []api.Con
	var values [][]int64
	for _, s := range shapes() {
		x := s.x
		if s.more {
			x += 2
		}
		a := s.times*x + s.a
		if s.name == "Element" {
			a = 3
		}
		c, v := holding(s.kind, x, a)
		cons, values = append(cons, c), append(values, v)
	}
	return cons, values
}

// changed is a constraint that shares no memory with c.
func changed(c api.Con, change func(c *api.Con)) api.Con {
	c.X, c.A = slices.Clone(c.X), slices.Clone(c.A)
	change(&c)
	return c
}

// with is a list that has n at a place, and shares no memory with l.
func with(l []int64, place int, n int64) []int64 {
	l = slices.Clone(l)
	l[place] = n
	return l
}

// P11.1, P11.2: as many X and A as each Kind requires and limits permit, one more, and all others.
func TestCounts(t *testing.T) {
	for _, s := range shapes() {
		for x := range 36 {
			if x == 0 && (s.kind == api.Or || s.kind == api.Xor) {
				continue // There is no last value to be set; TestCountsOfNothing has these.
			}
			for a := range 70 {
				c, v := holding(s.kind, x, a)
				expectFormed(t, c, v, s.counted(x, a) && (s.kind != api.Clause || x > 0))
			}
		}
	}
}

// P11.1: constraints without X and A.
func TestCountsOfNothing(t *testing.T) {
	for kind := range 30 {
		c := api.Con{Kind: kind}
		holds := slices.Contains([]int{api.LinEq, api.LinLe, api.AllDiff, api.Cumulative}, kind)
		for _, a := range [][]int64{nil, {}, {1, 0, 1}} {
			expectHolds(t, c, a, holds)
			expectSum(t, c, a, 0, kind >= api.LinEq && kind <= api.LinNe)
		}
		expectHolds(t, api.Con{Kind: kind, A: same(1, 1)}, []int64{1, 0, 1}, false)
	}
}

// P11.1, P11.2: numbers that are no Kind.
func TestKindsThatAreNone(t *testing.T) {
	kinds := []int{0, -1, -19, 20, 21, 22, 100, least, greatest}
	for kind := 1; kind <= 19; kind++ {
		kinds = append(kinds, 32+kind, 256+kind, 1<<32+kind, -kind)
	}
	cons, values := samples()
	for i, c := range cons {
		expectFormed(t, c, values[i], true)
		for _, kind := range kinds {
			expectFormed(t, changed(c, func(c *api.Con) { c.Kind = kind }), values[i], false)
		}
	}
	for _, kind := range kinds {
		expectFormed(t, api.Con{Kind: kind}, nil, false)
	}
}

// P11.1, P11.2: indices below 0, the last value, and beyond it.
func TestIndices(t *testing.T) {
	cons, values := samples()
	for i, c := range cons {
		n := len(values[i])
		for place := range c.X {
			// The value of this X is moved behind all others, so that the index is the last one.
			v := append(slices.Clone(values[i]), values[i][place])
			moved := changed(c, func(c *api.Con) { c.X[place] = n })
			expectFormed(t, moved, v, true)
			expectFormed(t, moved, v[:n], false)
			expectFormed(t, moved, nil, false)
			for _, x := range []int{-1, -2, -n - 1, n + 1, n + 2, 64, 1 << 32, least, greatest} {
				expectFormed(t, changed(c, func(c *api.Con) { c.X[place] = x }), v, false)
			}
		}
	}
}

// P11.1: there may be more values than a model may have variables, and values that are none where no X asks for them.
func TestManyValues(t *testing.T) {
	cons, values := samples()
	for i, c := range cons {
		a := slices.Repeat([]int64{greatest, least, most + 1, 2}, 250)
		far := changed(c, func(*api.Con) {})
		for place := range c.X {
			far.X[place] = 999 - 31*place
			a[far.X[place]] = values[i][place]
		}
		expectFormed(t, far, a, true)
		expectFormed(t, far, a[:999], len(c.X) == 0)
	}
}

// P11.1: X and A of any length come to an end.
func TestEndlessLists(t *testing.T) {
	for kind := range 21 {
		for _, n := range []int{33, 65, 1 << 20} {
			expectFormed(t, api.Con{Kind: kind, X: make([]int, n)}, []int64{1}, false)
			expectFormed(t, api.Con{Kind: kind, X: make([]int, n), A: same(n, 1)}, []int64{1}, false)
			expectFormed(t, api.Con{Kind: kind, X: make([]int, n), A: same(2*n, 1), C: most}, []int64{1}, false)
			expectFormed(t, api.Con{Kind: kind, X: []int{0, 0}, A: same(n, 1)}, []int64{1}, kind == api.Element && n <= 64)
		}
	}
}

// P11.1, P11.2: values at both limits and beyond them, where the constraint would hold in any case.
func TestValuesBeyondLimits(t *testing.T) {
	for _, n := range []int64{most, -most, most - 1, most + 1, -most - 1, 1 << 32, 1<<32 + 1, greatest, greatest - 1, least, least + 1} {
		for _, row := range []struct {
			c api.Con
			v []int64
		}{
			{con(api.LinEq, 2, 0, 1, -1), []int64{n, n}},
			{con(api.LinEq, 2, 1, 0, 1), []int64{n, 1}},
			{con(api.LinLe, 2, 0, 1, -1), []int64{n, n}},
			{con(api.LinLe, 1, 0, 0), []int64{n}},
			{con(api.LinNe, 1, 5, 1), []int64{n}},
			{con(api.LinEqReif, 3, 0, 1, -1), []int64{n, n, 1}},
			{con(api.LinEqReif, 2, 5, 1), []int64{n, 0}},
			{con(api.LinLeReif, 3, 0, 1, -1), []int64{n, n, 1}},
			{con(api.LinLeImp, 2, 5, 1), []int64{n, 0}},
			{con(api.Times, 3, 0), []int64{n, 1, n}},
			{con(api.Times, 3, 0), []int64{0, n, 0}},
			{con(api.Min, 3, 0), []int64{n, n, n}},
			{con(api.Max, 3, 0), []int64{n, n, n}},
			{con(api.Abs, 2, 0), []int64{n, max(n, -n)}},
			{con(api.Same, 2, 0), []int64{n, n}},
			{con(api.VarElement, 3, 0), []int64{1, n, n}},
			{con(api.VarElement, 4, 0), []int64{1, 5, n, 5}},
			{con(api.AllDiff, 1, 0), []int64{n}},
			{con(api.AllDiff, 3, 0), []int64{0, 1, n}},
			{con(api.Cumulative, 1, 1, 1, 1), []int64{n}},
			{con(api.Cumulative, 1, 1, 0, 0), []int64{n}},
		} {
			expectFormed(t, row.c, row.v, inside(n))
		}
	}
}

// P11.1, P11.2: numbers at both limits and beyond them, where the constraint would hold in any case.
func TestNumbersBeyondLimits(t *testing.T) {
	for _, n := range []int64{most, -most, most - 1, most + 1, -most - 1, 1 << 32, 1<<32 + 1, greatest, least} {
		for kind, v := range map[int][]int64{api.LinEq: {0}, api.LinLe: {0}, api.LinEqReif: {0, 1}, api.LinLeReif: {0, 1}, api.LinLeImp: {0, 1}} {
			expectFormed(t, con(kind, len(v), 0, n), v, inside(n))
		}
		expectFormed(t, con(api.LinNe, 1, 1, n), []int64{0}, inside(n))
		expectFormed(t, con(api.Element, 2, 0, n), []int64{1, n}, inside(n))
		expectFormed(t, con(api.Element, 2, 0, 5, n), []int64{1, 5}, inside(n))
		expectFormed(t, con(api.Cumulative, 1, 1, n, 0), []int64{3}, isNatural(n))
		expectFormed(t, con(api.Cumulative, 1, 1, 0, n), []int64{3}, isNatural(n))
		// The number C.
		expectFormed(t, con(api.LinEq, 2, n, 1, 1), []int64{n / 2, n - n/2}, inside(n))
		expectFormed(t, con(api.LinLe, 1, n, 1), []int64{min(n, most)}, inside(n))
		expectFormed(t, con(api.LinNe, 0, n), nil, inside(n))
		expectFormed(t, con(api.LinEqReif, 1, n), []int64{0}, inside(n))
		expectFormed(t, con(api.LinLeReif, 1, n), []int64{int64(min(1, max(0, n+1)))}, inside(n))
		expectFormed(t, con(api.LinLeImp, 1, n), []int64{0}, inside(n))
		expectFormed(t, con(api.Cumulative, 1, n, 1, 0), []int64{3}, isNatural(n))
	}
	for _, n := range []int64{-1, -2} {
		expectFormed(t, con(api.Cumulative, 1, 1, n, 0), []int64{3}, false)
		expectFormed(t, con(api.Cumulative, 2, 1, 1, 1, 1, n), []int64{3, 3}, false)
		expectFormed(t, con(api.Cumulative, 0, n), nil, false)
	}
}

// P11.1: signs of a Clause that are none, beside one for which it would hold.
func TestSigns(t *testing.T) {
	for _, n := range []int64{1, -1, 0, 2, -2, 3, 256 + 1, 1<<32 + 1, greatest, least} {
		for v := range int64(2) {
			expectFormed(t, con(api.Clause, 2, 0, 1, n), []int64{1, v}, isSign(n))
			expectFormed(t, con(api.Clause, 2, 0, n, -1), []int64{v, 0}, isSign(n))
		}
	}
}

// P11.1: a number C where a Kind has none.
func TestNoC(t *testing.T) {
	cons, values := samples()
	for i, c := range cons {
		if c.Kind <= api.LinLeImp || c.Kind == api.Cumulative {
			continue
		}
		for _, n := range []int64{0, 1, -1, 2, most, -most, most + 1, 1 << 32, greatest, least} {
			expectFormed(t, changed(c, func(c *api.Con) { c.C = n }), values[i], n == 0)
		}
	}
}

// P11.1, P11.2: values other than 0 and 1 where X must be boolean, though the constraint would hold.
func TestBooleans(t *testing.T) {
	for _, n := range []int64{0, 1, 2, -1, 3, -2, 256, 257, most, -most, 1 << 32, 1<<32 + 1, greatest, least} {
		truth := n == 0 || n == 1
		for kind := api.LinEqReif; kind <= api.LinLeImp; kind++ {
			expectSum(t, con(kind, 2, 5, 1), []int64{4, n}, map[bool]int64{true: 4}[truth], truth)
			// What must not be boolean may be anything.
			expectFormed(t, con(kind, 2, 0, 0), []int64{n, 1}, inside(n))
		}
		expectHolds(t, con(api.LinEqReif, 2, 5, 1), []int64{4, n}, n == 0)
		expectHolds(t, con(api.LinEqReif, 2, 5, 1), []int64{5, n}, n == 1)
		expectHolds(t, con(api.LinLeReif, 2, 5, 1), []int64{6, n}, n == 0)
		expectHolds(t, con(api.LinLeReif, 2, 5, 1), []int64{4, n}, n == 1)
		expectHolds(t, con(api.LinLeImp, 2, 5, 1), []int64{4, n}, truth)
		expectHolds(t, con(api.LinLeImp, 2, 5, 1), []int64{6, n}, n == 0)
		expectHolds(t, con(api.Clause, 3, 0, 1, 1, -1), []int64{1, n, 0}, truth)
		expectHolds(t, con(api.And, 3, 0), []int64{0, n, 0}, truth)
		expectHolds(t, con(api.And, 3, 0), []int64{n, 0, 0}, truth)
		expectHolds(t, con(api.And, 3, 0), []int64{0, 1, n}, n == 0)
		expectHolds(t, con(api.And, 3, 0), []int64{1, 1, n}, n == 1)
		expectHolds(t, con(api.Or, 3, 0), []int64{1, n, 1}, truth)
		expectHolds(t, con(api.Or, 3, 0), []int64{n, 1, 1}, truth)
		expectHolds(t, con(api.Or, 3, 0), []int64{0, 0, n}, n == 0)
		expectHolds(t, con(api.Or, 3, 0), []int64{0, 1, n}, n == 1)
		expectHolds(t, con(api.Xor, 3, 0), []int64{n, 0, 1}, n == 1)
		expectHolds(t, con(api.Xor, 3, 0), []int64{1, n, 1}, n == 0)
		expectHolds(t, con(api.Xor, 3, 0), []int64{n, n, 0}, truth)
		expectHolds(t, con(api.Xor, 3, 0), []int64{1, 1, n}, n == 0)
	}
}

// P11.1, P11.2: constraints and values by chance, mostly wrong ones, against the judge.
func TestByChance(t *testing.T) {
	random := rand.New(rand.NewPCG(11, 1))
	number := func() int64 {
		switch random.IntN(40) {
		case 0:
			return []int64{least, greatest, most + 1, -most - 1, 1 << 32}[random.IntN(5)]
		case 1, 2:
			return random.Int64N(9) - 4
		}
		return random.Int64N(2)
	}
	numbers := func(n int) []int64 {
		var l []int64
		for range n {
			l = append(l, number())
		}
		return l
	}
	held := 0
	for range 300000 {
		c := api.Con{Kind: random.IntN(22) - 1, A: numbers(random.IntN(5))}
		if random.IntN(3) == 0 {
			c.C = number()
		}
		for range random.IntN(6) {
			c.X = append(c.X, random.IntN(7)-random.IntN(2)*random.IntN(2))
		}
		// Times that are far apart would keep the judge too long.
		if c.Kind == api.Cumulative && slices.ContainsFunc(c.A, func(n int64) bool { return n > 9 }) {
			continue
		}
		a := numbers(5 + random.IntN(3))
		expectJudged(t, c, a)
		if sense.Holds(c, a) {
			held++
		}
		sum, ok := sense.Sum(c, a)
		if want := c.Kind >= 1 && c.Kind <= 6 && formed(c, a); ok != want || ok && sum != judgedOf(c, a) || !ok && sum != 0 {
			t.Errorf("Sum(%s) = %d, %v", told(c, a), sum, ok)
		}
	}
	if held < 3000 {
		t.Errorf("only %d of them hold", held)
	}
}

// judgedOf is the sum of a constraint that is well-formed for a.
func judgedOf(c api.Con, a []int64) int64 {
	var v []int64
	for _, x := range c.X {
		v = append(v, a[x])
	}
	return judgedSum(c, v)
}
