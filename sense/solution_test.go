package sense_test

import (
	"fmt"
	"slices"
	"testing"

	"touchstone/api"
	"touchstone/sense"
)

// ranges is the list of the ranges that pairs of ends tell.
func ranges(ends ...int64) []api.Range {
	var l []api.Range
	for pair := range slices.Chunk(ends, 2) {
		l = append(l, api.Range{Lo: pair[0], Hi: pair[1]})
	}
	return l
}

// domains are n equal domains.
func domains(n int, ends ...int64) [][]api.Range {
	var doms [][]api.Range
	for range n {
		doms = append(doms, ranges(ends...))
	}
	return doms
}

func expectAll(t *testing.T, m api.Model, a []int64, want bool) {
	t.Helper()
	if got := sense.All(m, a); got != want {
		t.Errorf("All(%.600s, %v) = %v", fmt.Sprintf("%+v", m), a, got)
	}
}

func expectBetter(t *testing.T, m api.Model, a, b []int64, want bool) {
	t.Helper()
	if got := sense.Better(m, a, b); got != want {
		t.Errorf("Better(%.600s, %v, %v) = %v", fmt.Sprintf("%+v", m), a, b, got)
	}
}

// mixed is a model of five variables with a gap in a domain, and constraints of several Kinds.
func mixed() api.Model {
	return api.Model{
		Doms: [][]api.Range{ranges(0, 3), ranges(-1, 0, 2, 3), ranges(0, 1), ranges(1, 2), ranges(0, 3)},
		Cons: []api.Con{
			{Kind: api.LinLe, X: []int{0, 1}, A: []int64{1, 1}, C: 4},
			{Kind: api.LinEqReif, X: []int{0, 3, 2}, A: []int64{1, -1}},
			{Kind: api.Max, X: []int{1, 3, 4}},
			{Kind: api.AllDiff, X: []int{0, 1}},
		},
		Ask: api.Minimize, Goal: 4,
	}
}

// judgedAll tells whether a is a solution, without All.
func judgedAll(m api.Model, a []int64) bool {
	for x, d := range m.Doms {
		if !slices.ContainsFunc(d, func(r api.Range) bool { return r.Lo <= a[x] && a[x] <= r.Hi }) {
			return false
		}
	}
	for _, c := range m.Cons {
		if !judged(c, a) {
			return false
		}
	}
	return true
}

// P11.2: All for all assignments, also those with values outside the domains.
func TestAllOfMixed(t *testing.T) {
	m, count := mixed(), 0
	eachRow(5, -2, 4, func(a []int64) {
		want := judgedAll(m, a)
		expectAll(t, m, a, want)
		if want {
			count++
		}
	})
	if count < 10 {
		t.Errorf("only %d solutions", count)
	}
}

// P11.2: models without constraints, and values at the ends of domains, in gaps and far outside.
func TestAllOfDomains(t *testing.T) {
	expectAll(t, api.Model{}, nil, true)
	expectAll(t, api.Model{}, []int64{}, true)
	expectAll(t, api.Model{}, []int64{0}, false)
	m := api.Model{Doms: [][]api.Range{ranges(-most, -5, -3, -3, 0, 4, 9, most)}}
	for v, want := range map[int64]bool{
		-most - 1: false, -most: true, -6: true, -5: true, -4: false, -3: true, -2: false, -1: false, 0: true, 4: true,
		5: false, 8: false, 9: true, most: true, most + 1: false, least: false, greatest: false, 1 << 32: false,
	} {
		expectAll(t, m, []int64{v}, want)
	}
}

// P11.2: too few and too many values.
func TestAllCountsValues(t *testing.T) {
	for n := range 66 {
		for values := range 68 {
			want := n <= 64 && n == values
			expectAll(t, api.Model{Doms: domains(n, 1, 3)}, same(values, 2), want)
			m := api.Model{Doms: domains(n, 1, 3), Cons: []api.Con{{Kind: api.AllDiff}}}
			expectAll(t, m, same(values, 2), want)
		}
	}
}

// P11.2: one value outside its domain, and one constraint that does not hold, at each place among as many as there may be.
func TestAllAsksForEach(t *testing.T) {
	m := api.Model{Doms: domains(64, 0, 9)}
	for i := range 64 {
		m.Cons = append(m.Cons, api.Con{Kind: api.LinNe, X: []int{i}, A: []int64{1}, C: 7})
	}
	a := same(64, 3)
	expectAll(t, m, a, true)
	for i := range 64 {
		for _, v := range []int64{-1, 7, 10} {
			expectAll(t, m, with(a, i, v), false)
		}
		expectAll(t, m, with(a, i, 9), true)
	}
	// A constraint that no value can make hold.
	for i := range 64 {
		never := slices.Clone(m.Cons)
		never[i] = api.Con{Kind: api.Clause}
		expectAll(t, api.Model{Doms: m.Doms, Cons: never}, a, false)
	}
}

// P11.2: All for a constraint of each Kind, in a model whose domains have only the sample's values.
func TestAllOfEachKind(t *testing.T) {
	cons, values := samples()
	for i, c := range cons {
		m := api.Model{Cons: []api.Con{c}}
		for _, v := range values[i] {
			m.Doms = append(m.Doms, ranges(v, v))
		}
		expectAll(t, m, values[i], true)
		for _, x := range c.X {
			expectAll(t, m, with(values[i], x, values[i][x]+1), false)
		}
		m.Cons = append(m.Cons, changed(c, func(c *api.Con) { c.Kind = 0 }))
		expectAll(t, m, values[i], false)
	}
}

// spoiled are models that are not valid, each of which has the domain of most variables in common with m.
func spoiled(m api.Model) map[string]api.Model {
	spoil := func(change func(m *api.Model)) api.Model {
		m := api.Model{Doms: slices.Clone(m.Doms), Cons: slices.Clone(m.Cons), Ask: m.Ask, Goal: m.Goal}
		change(&m)
		return m
	}
	dom := func(d ...int64) api.Model { return spoil(func(m *api.Model) { m.Doms[0] = ranges(d...) }) }
	con := func(c api.Con) api.Model { return spoil(func(m *api.Model) { m.Cons = append(m.Cons, c) }) }
	return map[string]api.Model{
		"an empty domain":          dom(),
		"ends turned round":        dom(0, 3, 9, 8),
		"ranges that touch":        dom(0, 1, 2, 3),
		"ranges in disorder":       dom(2, 3, 0, 0),
		"a domain beyond":          dom(0, most+1),
		"no Kind":                  con(api.Con{}),
		"a Kind beyond":            con(api.Con{Kind: 20}),
		"a variable beyond":        con(api.Con{Kind: api.AllDiff, X: []int{len(m.Doms)}}),
		"a flag that is none":      con(api.Con{Kind: api.LinLeImp, X: []int{len(m.Doms) - 1}}),
		"a literal that is none":   con(api.Con{Kind: api.Clause, X: []int{len(m.Doms) - 1}, A: []int64{1}}),
		"a C where there is none":  con(api.Con{Kind: api.AllDiff, C: 1}),
		"too many constraints":     spoil(func(m *api.Model) { m.Cons = slices.Repeat([]api.Con{{Kind: api.AllDiff}}, 65) }),
		"a request that is none":   spoil(func(m *api.Model) { m.Ask = 3 }),
		"a request below":          spoil(func(m *api.Model) { m.Ask = -1 }),
		"a Goal beyond":            spoil(func(m *api.Model) { m.Goal = len(m.Doms) }),
		"a Goal below":             spoil(func(m *api.Model) { m.Goal = -1 }),
		"a Goal where none is due": spoil(func(m *api.Model) { m.Ask, m.Goal = api.Satisfy, 1 }),
	}
}

// P11.2: models that are not valid have no solution, and no better one, though all values would do.
func TestModelsThatAreNotValid(t *testing.T) {
	m := api.Model{Doms: domains(3, 0, 3), Ask: api.Maximize, Goal: 2}
	a, b := []int64{0, 1, 1}, []int64{0, 1, 0}
	expectAll(t, m, a, true)
	expectBetter(t, m, a, b, true)
	for name, wrong := range spoiled(m) {
		t.Run(name, func(t *testing.T) {
			expectAll(t, wrong, a, false)
			expectBetter(t, wrong, a, b, false)
			expectBetter(t, wrong, b, a, false)
		})
	}
	for _, n := range []int{64, 65, 66} {
		m := api.Model{Doms: domains(n, 0, 3), Ask: api.Minimize}
		expectAll(t, m, same(n, 1), n <= 64)
		expectBetter(t, m, same(n, 1), same(n, 2), n <= 64)
	}
}

// P11.2: Better asks for Goal alone, as m asks.
func TestBetter(t *testing.T) {
	values := []int64{least, -most - 1, -most, -1, 0, 1, 2, most, 1 << 32, greatest}
	for goal := range 3 {
		for _, v := range values {
			for _, w := range values {
				a, b := with([]int64{5, 5, 5}, goal, v), with([]int64{9, -9, 0}, goal, w)
				m := api.Model{Doms: domains(3, 0, 3), Ask: api.Minimize, Goal: goal}
				expectBetter(t, m, a, b, v < w)
				m.Ask = api.Maximize
				expectBetter(t, m, a, b, v > w)
				m.Ask, m.Goal = api.Satisfy, 0
				expectBetter(t, m, a, b, false)
			}
		}
	}
	// Whether they are solutions is not asked.
	m := mixed()
	expectBetter(t, m, []int64{9, 9, 9, 9, 1}, []int64{0, 2, 0, 1, 2}, true)
	m.Cons = []api.Con{{Kind: api.Clause}}
	expectBetter(t, m, []int64{0, 2, 0, 1, 1}, []int64{0, 2, 0, 1, 2}, true)
}

// P11.2: Better for lists of other lengths.
func TestBetterCountsValues(t *testing.T) {
	for n := 1; n <= 4; n++ {
		for i := range 7 {
			for j := range 7 {
				for goal := range n {
					m := api.Model{Doms: domains(n, 0, 3), Ask: api.Minimize, Goal: goal}
					expectBetter(t, m, same(i, 1), same(j, 2), i == n && j == n)
					m.Ask = api.Maximize
					expectBetter(t, m, same(i, 2), same(j, 1), i == n && j == n)
				}
			}
		}
	}
	expectBetter(t, api.Model{}, nil, nil, false)
	expectBetter(t, api.Model{Ask: api.Minimize}, nil, nil, false)
	expectBetter(t, api.Model{Ask: api.Maximize}, nil, nil, false)
}

func expectSum(t *testing.T, c api.Con, a []int64, want int64, wantOk bool) {
	t.Helper()
	if n, ok := sense.Sum(c, a); n != want || ok != wantOk {
		t.Errorf("Sum(%s) = %d, %v", told(c, a), n, ok)
	}
}

// P11.2: the sum of each Kind that has one, whether the constraint holds or not; the flag does not count.
func TestSum(t *testing.T) {
	for kind := api.LinEq; kind <= api.LinLeImp; kind++ {
		flags := 0
		if kind >= api.LinEqReif {
			flags = 1
		}
		for c := int64(-3); c <= 3; c++ {
			for flag := range int64(2) {
				last := same(flags, flag)
				expectSum(t, con(kind, flags, c), last, 0, true)
				expectSum(t, con(kind, 1+flags, c, 5), append([]int64{3}, last...), 15, true)
				expectSum(t, con(kind, 3+flags, c, 2, -1, 0), append([]int64{4, 9, 7}, last...), -1, true)
			}
		}
		for _, v := range []int64{most, -most} {
			n := 32 - flags
			expectSum(t, con(kind, 32, most, same(n, most)...), append(same(n, v), same(flags, 1)...), int64(n)*most*v, true)
		}
		// A variable that occurs twice counts twice.
		twice := api.Con{Kind: kind, X: append([]int{2, 1, 2}, places(flags)...), A: []int64{1, 10, 100}}
		expectSum(t, twice, []int64{1, 4, 7}, 747, true)
	}
}

// P11.2: the Kinds that have no sum.
func TestSumOfNone(t *testing.T) {
	cons, values := samples()
	for i, c := range cons {
		if c.Kind > api.LinLeImp {
			expectSum(t, c, values[i], 0, false)
		}
		for _, kind := range []int{0, -1, 20, least, greatest} {
			expectSum(t, changed(c, func(c *api.Con) { c.Kind = kind }), values[i], 0, false)
		}
	}
	// A Clause and a Cumulative have numbers too.
	expectSum(t, con(api.Clause, 2, 0, 1, 1), []int64{1, 1}, 0, false)
	expectSum(t, con(api.Cumulative, 1, 2, 1, 1), []int64{1}, 0, false)
}
