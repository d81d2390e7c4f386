package model_test

import (
	"fmt"
	"slices"
	"testing"

	"touchstone/api"
	"touchstone/model"
)

const (
	least    = -1 << 63
	greatest = 1<<63 - 1
	most     = 1048576
)

func expectRight(t *testing.T, m api.Model, want bool) {
	t.Helper()
	if right := model.Right(m); right != want {
		t.Errorf("Right(%.400s) = %v", fmt.Sprintf("%+v", m), right)
	}
}

// withDom is a model of a variable with a domain.
func withDom(dom []api.Range) api.Model {
	return api.Model{Doms: [][]api.Range{dom}}
}

// withCon is a model of a constraint on booleans (variables 0 to 39) and ints (40 to 49).
func withCon(c api.Con) api.Model {
	doms := slices.Repeat([][]api.Range{ranges(0, 1)}, 40)
	doms = append(doms, slices.Repeat([][]api.Range{ranges(-5, 3, 7, 9)}, 10)...)
	return api.Model{Doms: doms, Cons: []api.Con{c}}
}

// P8.2: models of nothing, and of variables alone.
func TestRightWithoutConstraints(t *testing.T) {
	expectRight(t, api.Model{}, true)
	expectRight(t, api.Model{Doms: [][]api.Range{}, Cons: []api.Con{}}, true)
	expectRight(t, withDom(ranges(1, 3)), true)
	for _, n := range []int{1, 2, 63, 64, 65, 66, 1000} {
		expectRight(t, api.Model{Doms: slices.Repeat([][]api.Range{ranges(0, 4)}, n)}, n <= 64)
	}
}

// P8.2: all domains of up to three ranges with ends from -2 to 3, held against the sets of values
// that they are the valid domains of.
func TestRightSmallDomains(t *testing.T) {
	valid := map[string]bool{}
	for set := 1; set < 1<<6; set++ {
		var dom []api.Range
		for n := range 6 {
			if set>>n&1 == 0 {
				continue
			}
			if n > 0 && set>>(n-1)&1 == 1 {
				dom[len(dom)-1].Hi++
			} else {
				dom = append(dom, api.Range{Lo: int64(n - 2), Hi: int64(n - 2)})
			}
		}
		valid[fmt.Sprint(dom)] = true
	}
	var all []api.Range
	for lo := int64(-2); lo <= 3; lo++ {
		for hi := int64(-2); hi <= 3; hi++ {
			all = append(all, api.Range{Lo: lo, Hi: hi})
		}
	}
	count := 0
	expect := func(dom ...api.Range) {
		want := valid[fmt.Sprint(dom)]
		expectRight(t, withDom(dom), want)
		if want {
			count++
		}
	}
	expect()
	for _, a := range all {
		expect(a)
		for _, b := range all {
			expect(a, b)
			for _, c := range all {
				expect(a, b, c)
			}
		}
	}
	if count != 63 {
		t.Errorf("%d domains are valid", count)
	}
}

// P8.2: the ends of domains.
func TestRightDomainEnds(t *testing.T) {
	for _, end := range []int64{0, 1, most - 1, most, most + 1, 2 * most, greatest - 1, greatest} {
		want := end <= most
		expectRight(t, withDom(ranges(end, end)), want)
		expectRight(t, withDom(ranges(-end, -end)), want)
		expectRight(t, withDom(ranges(-end, end)), want)
		expectRight(t, withDom(ranges(-3, end)), want)
		expectRight(t, withDom(ranges(-end, 3)), want)
		expectRight(t, withDom(ranges(-9, -5, -3, end)), want)
		expectRight(t, withDom(ranges(-end, 3, 5, 9)), want)
	}
	expectRight(t, withDom(ranges(least, 3)), false)
	expectRight(t, withDom(ranges(least, greatest)), false)
	expectRight(t, withDom(ranges(least, least)), false)
	expectRight(t, withDom(ranges(greatest, least)), false)
	// No number beyond the last one may pass for a number before it.
	expectRight(t, withDom(ranges(1, greatest, least, 3)), false)
	expectRight(t, withDom(ranges(1, greatest, least+1, 3)), false)
	expectRight(t, withDom(ranges(1, greatest-1, least, 3)), false)
}

// P8.2: how far ranges must be apart, and that each of many is looked at.
func TestRightRanges(t *testing.T) {
	for gap := int64(-3); gap <= 4; gap++ {
		expectRight(t, withDom(ranges(-10, 5, 5+gap, 30)), gap >= 2)
		expectRight(t, withDom(ranges(-most, -most+4, -most+4+gap, most)), gap >= 2)
		expectRight(t, withDom(ranges(-10, -8, -6, 5, 5+gap, 30)), gap >= 2)
	}
	expectRight(t, withDom(ranges(5, 9, 1, 3)), false)
	expectRight(t, withDom(ranges(1, 3, 1, 3)), false)
	// The document sets no limit to the ranges of a valid domain.
	for _, n := range []int{2, 256, 257, 1000} {
		var dom []api.Range
		for i := range int64(n) {
			dom = append(dom, api.Range{Lo: 3 * i, Hi: 3*i + 1})
		}
		expectRight(t, withDom(dom), true)
		dom[n-1].Lo--
		expectRight(t, withDom(dom), false)
		dom[n-1].Lo += 3
		expectRight(t, withDom(dom), false)
	}
}

// P8.2: a domain that is not valid, at each place among others.
func TestRightEachDomain(t *testing.T) {
	for i := range 64 {
		for _, wrong := range [][]api.Range{nil, {}, ranges(3, 1), ranges(1, 2, 3, 4), ranges(0, most+1)} {
			m := api.Model{Doms: slices.Repeat([][]api.Range{ranges(0, 4)}, 64)}
			m.Doms[i] = wrong
			expectRight(t, m, false)
		}
	}
}

// P8.2: each number of X and of A, for each Kind and for numbers that are none.
func TestRightCounts(t *testing.T) {
	for kind := -2; kind <= 22; kind++ {
		for x := range 36 {
			for a := range 70 {
				c := api.Con{Kind: kind, X: make([]int, x), A: slices.Repeat([]int64{1}, a)}
				for i := range x {
					c.X[i] = i
				}
				expectRight(t, withCon(c), counted(kind, x, a) && x <= 32)
			}
		}
	}
	for _, kind := range []int{least, -19, 100, 256 + api.AllDiff, 1<<32 + api.AllDiff, greatest} {
		expectRight(t, withCon(api.Con{Kind: kind}), false)
		expectRight(t, withCon(api.Con{Kind: kind, X: []int{0, 1}}), false)
		expectRight(t, withCon(api.Con{Kind: kind, X: []int{0, 1}, A: []int64{1, 1}}), false)
	}
}

// sampleCons are a valid constraint of each Kind, of which the first X are ints where they may be.
func sampleCons() []api.Con {
	return []api.Con{
		{Kind: api.LinEq, X: []int{40, 41}, A: []int64{2, -1}, C: 3},
		{Kind: api.LinLe, X: []int{40, 0}, A: []int64{2, 0}, C: -3},
		{Kind: api.LinNe, X: []int{41, 49, 41}, A: []int64{1, 1, 1}, C: 1},
		{Kind: api.LinEqReif, X: []int{40, 41, 0}, A: []int64{2, -1}, C: 3},
		{Kind: api.LinLeReif, X: []int{40, 0}, A: []int64{2}, C: -3},
		{Kind: api.LinLeImp, X: []int{41, 49, 41, 39}, A: []int64{1, 1, 1}, C: 1},
		{Kind: api.Times, X: []int{40, 41, 42}},
		{Kind: api.Min, X: []int{40, 41, 41}},
		{Kind: api.Max, X: []int{49, 0, 42}},
		{Kind: api.Abs, X: []int{40, 41}},
		{Kind: api.Clause, X: []int{0, 1, 0}, A: []int64{1, -1, -1}},
		{Kind: api.And, X: []int{3, 2, 1}},
		{Kind: api.Or, X: []int{39}},
		{Kind: api.Xor, X: []int{1, 2, 3}},
		{Kind: api.Same, X: []int{45, 0}},
		{Kind: api.Element, X: []int{40, 41}, A: []int64{5, -6}},
		{Kind: api.VarElement, X: []int{40, 0, 41, 42}},
		{Kind: api.AllDiff, X: []int{40, 41, 42, 0}},
		{Kind: api.Cumulative, X: []int{40, 41}, A: []int64{0, 1, 2, 0}, C: 2},
	}
}

// changed is a constraint that shares no memory with c.
func changed(c api.Con, change func(c *api.Con)) api.Con {
	c.X, c.A = slices.Clone(c.X), slices.Clone(c.A)
	change(&c)
	return c
}

// P8.2: each X is a variable of the model.
func TestRightVariables(t *testing.T) {
	for _, c := range sampleCons() {
		expectRight(t, withCon(c), true)
		for i := range c.X {
			for _, x := range []int{-1, -40, 50, 51, 1000, least, greatest} {
				expectRight(t, withCon(changed(c, func(c *api.Con) { c.X[i] = x })), false)
			}
		}
	}
	expectRight(t, api.Model{Cons: []api.Con{{Kind: api.AllDiff}}}, true)
	expectRight(t, api.Model{Cons: []api.Con{{Kind: api.AllDiff, X: []int{0}}}}, false)
	expectRight(t, api.Model{Cons: []api.Con{{Kind: api.And, X: []int{0}}}}, false)
}

// needsBoolean tells whether the variable at a place of a constraint of n X must be boolean.
func needsBoolean(kind, place, n int) bool {
	switch kindNames[kind-1] {
	case "LinEqReif", "LinLeReif", "LinLeImp":
		return place == n-1
	}
	return slices.Contains([]string{"Clause", "And", "Or", "Xor"}, kindNames[kind-1])
}

// P8.2: which X must be boolean, and which domains are.
func TestRightBooleans(t *testing.T) {
	boolean := [][]api.Range{ranges(0, 0), ranges(1, 1), ranges(0, 1)}
	others := [][]api.Range{
		ranges(-1, 0), ranges(-1, 1), ranges(0, 2), ranges(1, 2), ranges(2, 2), ranges(-1, -1),
		ranges(0, 0, 2, 2), ranges(-1, -1, 1, 1), ranges(-1, -1, 2, 2), ranges(-5, -3, 0, 0, 7, 9),
		ranges(1, 1, most, most), ranges(-most, -most, 0, 1),
	}
	for _, c := range sampleCons() {
		for i := range c.X {
			required := needsBoolean(c.Kind, i, len(c.X))
			expectRight(t, withCon(changed(c, func(c *api.Con) { c.X[i] = 44 })), !required)
			m := withCon(changed(c, func(c *api.Con) { c.X[i] = 7 }))
			for _, m.Doms[7] = range boolean {
				expectRight(t, m, true)
			}
			for _, m.Doms[7] = range others {
				expectRight(t, m, !required)
			}
		}
	}
}

// P8.2: the numbers A.
func TestRightNumbers(t *testing.T) {
	for _, c := range sampleCons() {
		for i := range c.A {
			for _, n := range []int64{0, 1, -1, 2, -2, 3, -3, most, -most, most + 1, -most - 1, 1 << 32, 1<<32 + 1, greatest, least} {
				want := inside(n)
				switch c.Kind {
				case api.Clause:
					want = n == 1 || n == -1
				case api.Cumulative:
					want = want && n >= 0
				}
				expectRight(t, withCon(changed(c, func(c *api.Con) { c.A[i] = n })), want)
			}
		}
	}
}

// P8.2: the number C, which must be 0 where a Kind has none.
func TestRightC(t *testing.T) {
	for _, c := range sampleCons() {
		for _, n := range []int64{0, 1, -1, 2, 64, most, -most, most + 1, -most - 1, 1 << 32, greatest, least} {
			want := n == 0
			if c.Kind <= api.LinLeImp {
				want = inside(n)
			}
			if c.Kind == api.Cumulative {
				want = inside(n) && n >= 0
			}
			expectRight(t, withCon(changed(c, func(c *api.Con) { c.C = n })), want)
		}
	}
}

// P8.2: constraints with as many X, and tables with as many numbers, as there may be.
func TestRightLong(t *testing.T) {
	long := func(c api.Con, x, a int) api.Model {
		c.X, c.A = make([]int, x), slices.Repeat([]int64{1}, a)
		return withCon(c)
	}
	for n := 30; n <= 34; n++ {
		for _, kind := range []int{api.LinEq, api.LinLe, api.LinNe, api.Clause} {
			expectRight(t, long(api.Con{Kind: kind}, n, n), n <= 32)
		}
		for _, kind := range []int{api.LinEqReif, api.LinLeReif, api.LinLeImp} {
			expectRight(t, long(api.Con{Kind: kind}, n, n-1), n <= 32)
		}
		for _, kind := range []int{api.And, api.Or, api.VarElement, api.AllDiff} {
			expectRight(t, long(api.Con{Kind: kind}, n, 0), n <= 32)
		}
		expectRight(t, long(api.Con{Kind: api.Cumulative}, n, 2*n), n <= 32)
	}
	for _, n := range []int{0, 1, 2, 63, 64, 65, 66, 1000} {
		expectRight(t, long(api.Con{Kind: api.Element}, 2, n), n >= 1 && n <= 64)
	}
}

// P8.2: 64 constraints and more, and one that is not valid at each place among others.
func TestRightManyConstraints(t *testing.T) {
	all := sampleCons()
	m := withCon(all[0])
	for _, n := range []int{0, 1, 19, 63, 64, 65, 66, 1000} {
		m.Cons = nil
		for i := range n {
			m.Cons = append(m.Cons, all[i%len(all)])
		}
		expectRight(t, m, n <= 64)
		for i := range min(n, 64) {
			right := m.Cons[i]
			m.Cons[i].Kind = 0
			expectRight(t, m, false)
			m.Cons[i] = right
		}
	}
}

// P8.2: Ask and Goal.
func TestRightRequest(t *testing.T) {
	for _, n := range []int{0, 1, 2, 64} {
		for ask := -2; ask <= 4; ask++ {
			for _, goal := range []int{-64, -2, -1, 0, 1, 2, 62, 63, 64, 65, least, greatest} {
				m := api.Model{Doms: slices.Repeat([][]api.Range{ranges(0, 4)}, n), Ask: ask, Goal: goal}
				want := false
				switch ask {
				case 0:
					want = goal == 0
				case 1, 2:
					want = goal >= 0 && goal < n
				}
				expectRight(t, m, want)
			}
		}
	}
	for _, ask := range []int{least, greatest, 1<<32 + 1, 256} {
		expectRight(t, api.Model{Doms: [][]api.Range{ranges(0, 4)}, Ask: ask}, false)
	}
}

// R6: Right leaves its argument as it is.
func TestRightLeavesModel(t *testing.T) {
	m := withCon(sampleCons()[0])
	m.Cons = sampleCons()
	m.Ask, m.Goal = api.Maximize, 49
	before := told(model.Problem{M: m})
	expectRight(t, m, true)
	expectRight(t, m, true)
	if told(model.Problem{M: m}) != before {
		t.Errorf("%s became %s", before, told(model.Problem{M: m}))
	}
}
