package arith_test

import (
	"math/rand/v2"
	"slices"
	"testing"

	"touchstone/api"
	"touchstone/arith"
	"touchstone/sense"
)

// chanceDomain is a domain of up to four ranges, from -limit to limit.
func chanceDomain(random *rand.Rand, limit int64) list {
	var d list
	from := random.Int64N(2*limit+1) - limit
	for range 1 + random.IntN(4) {
		to := from + random.Int64N(max(1, limit/2))
		if to > limit {
			break
		}
		d = append(d, api.Range{Lo: from, Hi: to})
		from = to + 2 + random.Int64N(3)
	}
	if len(d) == 0 {
		return one(from)
	}
	return d
}

// chance is a constraint on some of up to four variables, most of which have values up to a limit.
func chance(random *rand.Rand, limit int64) (api.Con, []list) {
	kind := kinds()[random.IntN(5)]
	var d []list
	for range 1 + random.IntN(4) {
		d = append(d, chanceDomain(random, limit))
	}
	c := api.Con{Kind: kind}
	for range count(kind) {
		c.X = append(c.X, random.IntN(len(d)))
	}
	if kind == api.Times && random.IntN(2) == 0 {
		d[c.X[2]] = chanceDomain(random, limit*limit)
	}
	return c, d
}

// P14.1: greater domains, of variables that may stand at several positions, by chance.
func TestChance(t *testing.T) {
	random := rand.New(rand.NewPCG(14, 1))
	fails, changes := map[int]int{}, map[int]int{}
	for range 30000 {
		c, d := chance(random, []int64{3, 9, 40}[random.IntN(3)])
		expectJudged(t, c, d)
		if out, err := arith.Narrow(c, d); err == api.ErrFail {
			fails[c.Kind]++
		} else if !sameDomains(out, d) {
			changes[c.Kind]++
		}
	}
	for _, kind := range kinds() {
		if fails[kind] < 500 || fails[kind] > 4000 || changes[kind] < 1000 {
			t.Errorf("of Kind %d, %d fail and %d are narrowed", kind, fails[kind], changes[kind])
		}
	}
}

// eachValues goes through all values within d, one for each variable.
func eachValues(d []list, do func(v []int64)) {
	values := valuesOf(d)
	at := make([]int, len(d))
	for {
		var v []int64
		for x, l := range values {
			v = append(v, l[at[x]])
		}
		do(v)
		x := 0
		for x < len(d) && at[x] == len(values[x])-1 {
			at[x] = 0
			x++
		}
		if x == len(d) {
			return
		}
		at[x]++
	}
}

func within(v []int64, d []list) bool {
	for x := range v {
		if !slices.ContainsFunc(d[x], func(r api.Range) bool { return r.Lo <= v[x] && v[x] <= r.Hi }) {
			return false
		}
	}
	return len(v) == len(d)
}

// P14.2: all values for which a constraint holds are left, and there are none where it fails.
func TestNothingIsLost(t *testing.T) {
	random := rand.New(rand.NewPCG(14, 2))
	held, failed := map[int]int{}, map[int]int{}
	for range 8000 {
		c, d := chance(random, 5)
		out, err := arith.Narrow(c, d)
		if err == api.ErrFail {
			failed[c.Kind]++
		}
		eachValues(d, func(v []int64) {
			if !sense.Holds(c, v) {
				return
			}
			held[c.Kind]++
			if err != api.OK || !within(v, out) {
				t.Errorf("Narrow(%s) loses %v", told(c, d), v)
			}
		})
	}
	for _, kind := range kinds() {
		if held[kind] < 2000 || failed[kind] < 200 {
			t.Errorf("of Kind %d, %d values held and %d constraints failed", kind, held[kind], failed[kind])
		}
	}
}

// isPart tells whether a's domains have no values that b's domains don't have.
func isPart(a, b []list) bool {
	if len(a) != len(b) {
		return false
	}
	values, more := valuesOf(a), valuesOf(b)
	for x, l := range values {
		for _, v := range l {
			if !slices.Contains(more[x], v) {
				return false
			}
		}
	}
	return true
}

// P14.3: no domain gains a value, and none is lost or empty.
func TestLess(t *testing.T) {
	random := rand.New(rand.NewPCG(14, 3))
	for range 15000 {
		c, d := chance(random, 9)
		out, err := arith.Narrow(c, d)
		if err == api.OK && !isPart(out, d) || err != api.OK && out != nil {
			t.Errorf("Narrow(%s) = %v, %d", told(c, d), out, err)
		}
		for _, domain := range out {
			if len(domain) == 0 {
				t.Errorf("Narrow(%s) = %v", told(c, d), out)
			}
		}
	}
}

// partOf are domains with some of the values of d, at least one each.
func partOf(random *rand.Rand, d []list) []list {
	values := valuesOf(d)
	for x, l := range values {
		keep := l[random.IntN(len(l))]
		share := random.IntN(5)
		values[x] = slices.DeleteFunc(l, func(v int64) bool { return v != keep && random.IntN(5) < share })
	}
	return formOf(values)
}

// expectOrder expects that smaller domains have smaller results, or fail.
func expectOrder(t *testing.T, c api.Con, small, great []list) {
	t.Helper()
	less, err := arith.Narrow(c, small)
	more, greatErr := arith.Narrow(c, great)
	if err == api.OK && (greatErr != api.OK || !isPart(less, more)) {
		t.Errorf("Narrow(%s) = %v; of smaller domains: %v", told(c, great), more, less)
	}
}

// eachPair goes through all pairs of domains of which the first is a part of the second.
func eachPair(domains []list, do func(small, great list)) {
	for _, small := range domains {
		for _, great := range domains {
			if isPart([]list{small}, []list{great}) {
				do(small, great)
			}
		}
	}
}

// P14.3: small domains and all their parts.
func TestOrderSmall(t *testing.T) {
	domains := domainsFrom(-1, 3)
	eachPair(domains, func(x, greatX list) {
		eachPair(domains, func(y, greatY list) {
			for _, kind := range ofTwo() {
				expectOrder(t, con(kind), []list{x, y}, []list{greatX, greatY})
			}
			for _, kind := range ofThree() {
				for _, p := range [][]int{{0, 0, 1}, {0, 1, 0}, {1, 0, 0}} {
					expectOrder(t, on(kind, p...), []list{x, y}, []list{greatX, greatY})
				}
				eachPair(domains, func(z, greatZ list) {
					expectOrder(t, con(kind), []list{x, y, z}, []list{greatX, greatY, greatZ})
				})
			}
		})
	})
}

// P14.3: greater domains and their parts, by chance.
func TestOrder(t *testing.T) {
	random := rand.New(rand.NewPCG(14, 33))
	for range 20000 {
		c, d := chance(random, 9)
		expectOrder(t, c, partOf(random, d), d)
	}
}

// result is what the last variable of a constraint must be, if x and y have these values.
func result(kind int, x, y int64) int64 {
	switch kind {
	case api.Times:
		return x * y
	case api.Min:
		return min(x, y)
	case api.Max:
		return max(x, y)
	}
	return max(x, -x)
}

// P14.4: z has a single value if x and y have one, and y if x has one in an Abs; it fails if that is none of theirs.
func TestDecided(t *testing.T) {
	domains := append(domainsFrom(-4, 6), ranges(-99, 99), ranges(-99, -1, 1, 99), ranges(-16, -16, 16, 16))
	for _, kind := range []int{api.Times, api.Min, api.Max, api.Abs} {
		for x := int64(-9); x <= 9; x++ {
			for y := int64(-9); y <= 9; y++ {
				fixed := []list{one(x), one(y)}[:count(kind)-1]
				v := result(kind, x, y)
				for _, domain := range domains {
					d := append(slices.Clone(fixed), domain)
					if within([]int64{v}, []list{domain}) {
						expectNarrow(t, con(kind), d, append(slices.Clone(fixed), one(v)), api.OK)
					} else {
						expectNarrow(t, con(kind), d, nil, api.ErrFail)
					}
				}
			}
		}
	}
}

// P14.4: the same where a variable stands at several positions, by chance.
func TestDecidedByChance(t *testing.T) {
	random := rand.New(rand.NewPCG(14, 4))
	decided := map[int]int{}
	for range 40000 {
		c, d := chance(random, 6)
		if c.Kind == api.Same {
			continue
		}
		last := c.X[len(c.X)-1]
		for _, x := range c.X[:len(c.X)-1] {
			d[x] = one(random.Int64N(7) - 3)
		}
		out, err := arith.Narrow(c, d)
		if err != api.OK {
			continue
		}
		decided[c.Kind]++
		v := result(c.Kind, d[c.X[0]][0].Lo, d[c.X[1]][0].Lo)
		if !slices.Equal(out[last], one(v)) {
			t.Errorf("Narrow(%s) = %v", told(c, d), out)
		}
	}
	for _, kind := range []int{api.Times, api.Min, api.Max, api.Abs} {
		if decided[kind] < 1000 {
			t.Errorf("%d of Kind %d are decided", decided[kind], kind)
		}
	}
}

// turned are domains with the opposite of each value.
func turned(d []list) []list {
	values := valuesOf(d)
	for _, l := range values {
		for i := range l {
			l[i] = -l[i]
		}
		slices.Sort(l)
	}
	return formOf(values)
}

// P14.1: Max is to Min what the opposites are to the values.
func TestOpposites(t *testing.T) {
	random := rand.New(rand.NewPCG(14, 6))
	for range 6000 {
		c, d := chance(random, 20)
		if c.Kind == api.Min {
			want, err := arith.Narrow(c, d)
			c.Kind = api.Max
			expectNarrow(t, c, turned(d), turned(want), err)
		}
	}
}
