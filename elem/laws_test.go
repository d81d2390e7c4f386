package elem_test

import (
	"math/rand/v2"
	"slices"
	"testing"

	"touchstone/api"
	"touchstone/elem"
	"touchstone/sense"
)

// chanceDomain is a domain of up to three ranges within 0 to limit, or a little outside.
func chanceDomain(random *rand.Rand, limit int64) list {
	var d list
	from := random.Int64N(limit+2) - 1
	for range 1 + random.IntN(3) {
		to := from + random.Int64N(max(1, limit/2))
		if to > limit+1 {
			break
		}
		d = append(d, api.Range{Lo: from, Hi: to})
		from = to + 2 + random.Int64N(3)
	}
	if len(d) == 0 {
		return one(from)
	}
	return d
}

// chance is a constraint with up to six choices, on variables that have values up to a limit and may stand
// at several positions.
func chance(random *rand.Rand, limit int64) (api.Con, []list) {
	c := api.Con{Kind: kinds()[random.IntN(2)]}
	n, count := 1+random.IntN(6), 2
	if c.Kind == api.Element {
		for range n {
			c.A = append(c.A, random.Int64N(limit+2)-1)
		}
	} else {
		count += n
	}
	vars := count
	if random.IntN(2) == 0 {
		vars = 1 + random.IntN(count)
	}
	c.X = random.Perm(vars)
	for len(c.X) < count {
		c.X = append(c.X, random.IntN(vars))
	}
	random.Shuffle(count, func(a, b int) { c.X[a], c.X[b] = c.X[b], c.X[a] })
	var d []list
	for range vars {
		d = append(d, chanceDomain(random, limit))
	}
	if random.IntN(3) > 0 {
		d[c.X[0]] = chanceDomain(random, int64(n))
	}
	return c, d
}

// P16.1: more choices and greater domains, by chance.
func TestChance(t *testing.T) {
	random := rand.New(rand.NewPCG(16, 1))
	fails, changes, kept := map[int]int{}, map[int]int{}, map[int]int{}
	for range 40000 {
		c, d := chance(random, []int64{3, 7, 12, 40}[random.IntN(4)])
		expectJudged(t, c, d)
		out, err := elem.Narrow(c, d)
		switch {
		case err == api.ErrFail:
			fails[c.Kind]++
		case sameDomains(out, d):
			kept[c.Kind]++
		default:
			changes[c.Kind]++
		}
	}
	for _, kind := range kinds() {
		if fails[kind] < 1000 || changes[kind] < 3000 || kept[kind] < 100 {
			t.Errorf("of Kind %d, %d fail, %d are narrowed and %d are not", kind, fails[kind], changes[kind], kept[kind])
		}
	}
}

// eachValues goes through all values within d, one for each variable.
func eachValues(d []list, do func(v []int64)) {
	if len(d) == 0 {
		do(nil)
		return
	}
	last := len(d) - 1
	values := valuesOf(d[last:])[0]
	eachValues(d[:last], func(v []int64) {
		for _, n := range values {
			do(append(slices.Clone(v), n))
		}
	})
}

func within(v []int64, d []list) bool {
	for x := range v {
		if !slices.ContainsFunc(d[x], func(r api.Range) bool { return r.Lo <= v[x] && v[x] <= r.Hi }) {
			return false
		}
	}
	return len(v) == len(d)
}

// small is a constraint whose domains have few values together.
func small(random *rand.Rand) (api.Con, []list) {
	for {
		c, d := chance(random, 4)
		if len(d) <= 6 {
			return c, d
		}
	}
}

// P16.2: all values for which a constraint holds are left, and there are none where it fails.
func TestNothingIsLost(t *testing.T) {
	random := rand.New(rand.NewPCG(16, 2))
	held, failed := map[int]int{}, map[int]int{}
	for range 16000 {
		c, d := small(random)
		out, err := elem.Narrow(c, d)
		if err == api.ErrFail {
			failed[c.Kind]++
		}
		eachValues(d, func(v []int64) {
			if !sense.Holds(c, v) {
				return
			}
			held[c.Kind]++
			if err != api.OK || !within(v, out) {
				t.Errorf("Narrow(%s) loses %v", told(c, d), v)
			}
		})
	}
	for _, kind := range kinds() {
		if held[kind] < 2000 || failed[kind] < 300 {
			t.Errorf("of Kind %d, %d values held and %d constraints failed", kind, held[kind], failed[kind])
		}
	}
}

// isPart tells whether a's domains have no values that b's domains don't have.
func isPart(a, b []list) bool {
	if len(a) != len(b) {
		return false
	}
	for x := range a {
		for _, r := range a[x] {
			if !slices.ContainsFunc(b[x], func(more api.Range) bool { return more.Lo <= r.Lo && r.Hi <= more.Hi }) {
				return false
			}
		}
	}
	return true
}

// P16.3: no domain gains a value, and none is lost or empty.
func TestLess(t *testing.T) {
	random := rand.New(rand.NewPCG(16, 3))
	for range 15000 {
		c, d := chance(random, 9)
		out, err := elem.Narrow(c, d)
		if err == api.OK && !isPart(out, d) || err != api.OK && out != nil {
			t.Errorf("Narrow(%s) = %v, %d", told(c, d), out, err)
		}
		for _, domain := range out {
			if len(domain) == 0 {
				t.Errorf("Narrow(%s) = %v", told(c, d), out)
			}
		}
	}
}

// partOf are domains with some of the values of d, at least one each.
func partOf(random *rand.Rand, d []list) []list {
	values := valuesOf(d)
	for x, l := range values {
		keep := l[random.IntN(len(l))]
		share := random.IntN(5)
		values[x] = slices.DeleteFunc(l, func(v int64) bool { return v != keep && random.IntN(5) < share })
	}
	return formOf(values)
}

// expectOrder expects that smaller domains have smaller results, or fail.
func expectOrder(t *testing.T, c api.Con, small, great []list) {
	t.Helper()
	less, err := elem.Narrow(c, small)
	more, greatErr := elem.Narrow(c, great)
	if err == api.OK && (greatErr != api.OK || !isPart(less, more)) {
		t.Errorf("Narrow(%s) = %v; of smaller domains: %v", told(c, great), more, less)
	}
}

// eachPair goes through all lists of n pairs of these domains of which the first is a part of the second.
func eachPair(n int, domains []list, do func(small, great []list)) {
	eachChoice(n, domains, func(great []list) {
		eachChoice(n, domains, func(small []list) {
			if isPart(small, great) {
				do(small, great)
			}
		})
	})
}

// P16.3: small domains and all their parts.
func TestOrderSmall(t *testing.T) {
	eachPair(2, domainsFrom(0, 4), func(small, great []list) {
		for _, a := range [][]int64{{1}, {2, 1}, {1, 1}, {3, 2, 1}, {2, 3, 3}, {0, 2, 0}} {
			expectOrder(t, table(a...), small, great)
			expectOrder(t, tableOn(1, 1, a...), small, great)
		}
		for _, x := range [][]int{{0, 0, 1}, {0, 1, 0}, {0, 1, 1}, {0, 0, 1, 1}, {0, 1, 0, 1}, {0, 1, 1, 0}, {0, 0, 1, 0}} {
			expectOrder(t, among(x...), small, great)
		}
	})
	eachPair(3, domainsFrom(1, 3), func(small, great []list) {
		for _, x := range [][]int{{0, 1, 2}, {0, 1, 2, 0}, {0, 0, 1, 2}, {0, 1, 1, 2}, {0, 1, 2, 1, 2}} {
			expectOrder(t, among(x...), small, great)
		}
	})
	eachPair(4, domainsFrom(1, 2), func(small, great []list) {
		expectOrder(t, among(0, 1, 2, 3), small, great)
		expectOrder(t, among(0, 2, 2, 1, 3), small, great)
	})
}

// P16.3: greater domains and their parts, by chance.
func TestOrder(t *testing.T) {
	random := rand.New(rand.NewPCG(16, 33))
	for range 30000 {
		c, d := chance(random, 7)
		expectOrder(t, c, partOf(random, d), d)
	}
}

// hull are the values that each variable has within d where c holds.
func hull(c api.Con, d []list) []list {
	values := make([][]int64, len(d))
	eachValues(d, func(v []int64) {
		if sense.Holds(c, v) {
			for x, n := range v {
				values[x] = append(values[x], n)
			}
		}
	})
	for x := range values {
		slices.Sort(values[x])
		values[x] = slices.Compact(values[x])
	}
	return formOf(values)
}

// expectAll expects of distinct variables that just those values of the index and the result are left for
// which c holds; all of them, so that each belongs to values within what is left.
func expectAll(t *testing.T, c api.Con, d []list) {
	t.Helper()
	want := hull(c, d)
	out, err := elem.Narrow(c, d)
	if len(want[c.X[0]]) == 0 {
		if err != api.ErrFail {
			t.Errorf("Narrow(%s) = %v, %d", told(c, d), out, err)
		}
		return
	}
	for _, x := range []int{c.X[0], c.X[len(c.X)-1]} {
		if err != api.OK || !slices.Equal(out[x], want[x]) || !slices.Equal(hull(c, out)[x], want[x]) {
			t.Errorf("Narrow(%s) = %v, %d, with variable %d", told(c, d), out, err, x)
		}
	}
}

// P16.4: small domains.
func TestAllSmall(t *testing.T) {
	for _, index := range domainsFrom(0, 4) {
		for _, result := range domainsFrom(0, 4) {
			eachChoice(2, []int64{-1, 0, 2, 3}, func(a []int64) {
				expectAll(t, table(a...), []list{index, result})
			})
			eachChoice(1, domainsFrom(1, 4), func(d []list) {
				expectAll(t, among(0, 1, 2), []list{index, d[0], result})
			})
			eachChoice(2, domainsFrom(1, 2), func(d []list) {
				expectAll(t, among(0, 1, 2, 3), []list{index, d[0], d[1], result})
			})
		}
	}
}

// P16.4: greater ones, by chance.
func TestAll(t *testing.T) {
	random := rand.New(rand.NewPCG(16, 4))
	asked := map[int]int{}
	for range 30000 {
		c, d := small(random)
		if len(d) == len(c.X) {
			asked[c.Kind]++
			expectAll(t, c, d)
		}
	}
	for _, kind := range kinds() {
		if asked[kind] < 1000 {
			t.Errorf("%d of Kind %d are asked", asked[kind], kind)
		}
	}
}

// P16.1: a table is a list of variables with a single value each, unless the index is the result: then a
// list fails where the only value that is left chooses another one, which isn't asked of a table.
func TestTableIsList(t *testing.T) {
	random := rand.New(rand.NewPCG(16, 5))
	asked := 0
	for range 15000 {
		c, d := chance(random, 7)
		if c.Kind != api.Element || c.X[0] == c.X[1] {
			continue
		}
		asked++
		want, err := elem.Narrow(c, d)
		list := among(c.X[0])
		for _, v := range c.A {
			list.X = append(list.X, len(d))
			d = append(d, one(v))
			if err == api.OK {
				want = append(want, one(v))
			}
		}
		list.X = append(list.X, c.X[1])
		expectNarrow(t, list, d, want, err)
	}
	if asked < 3000 {
		t.Errorf("%d are asked", asked)
	}
	d := []list{ranges(5, 7)}
	expectNarrow(t, tableOn(0, 0, 5, 4, 6, 6, 6, 7), d, []list{one(6)}, api.OK)
	for _, v := range []int64{5, 4, 6, 6, 6, 7} {
		d = append(d, one(v))
	}
	expectNarrow(t, among(0, 1, 2, 3, 4, 5, 6, 0), d, nil, api.ErrFail)
}
