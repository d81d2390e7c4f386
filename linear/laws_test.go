package linear_test

import (
	"math/rand/v2"
	"slices"
	"testing"

	"touchstone/api"
	"touchstone/linear"
	"touchstone/sense"
)

// chanceDomain is a domain of up to four ranges, from -limit to limit.
func chanceDomain(random *rand.Rand, limit int64) list {
	var d list
	from := random.Int64N(2*limit+1) - limit
	for range 1 + random.IntN(4) {
		to := from + random.Int64N(max(1, limit/3))
		if to > limit {
			break
		}
		d = append(d, api.Range{Lo: from, Hi: to})
		from = to + 2 + random.Int64N(3)
	}
	if len(d) == 0 {
		return ranges(from, from)
	}
	return d
}

// chance is a constraint of n positions, on some of up to n variables that have values up to a limit.
func chance(random *rand.Rand, kind, n int, limit int64) (api.Con, []list) {
	var d []list
	for range 1 + random.IntN(n+1) {
		d = append(d, chanceDomain(random, limit))
	}
	c := api.Con{Kind: kind, C: random.Int64N(2*limit+1) - limit}
	for range n {
		c.X = append(c.X, random.IntN(len(d)))
		c.A = append(c.A, random.Int64N(9)-4)
	}
	return c, d
}

// P12.1: longer sums, over greater domains, by chance.
func TestChance(t *testing.T) {
	random := rand.New(rand.NewPCG(12, 1))
	fails := [4]int{}
	for i := range 9000 {
		c, d := chance(random, 1+i%3, random.IntN(7), []int64{3, 9, 40}[random.IntN(3)])
		expectJudged(t, c, d)
		if _, err := linear.Narrow(c, d); err == api.ErrFail {
			fails[c.Kind]++
		}
	}
	for kind, n := range fails[1:] {
		if n < 30 || n > 2900 {
			t.Errorf("%d of Kind %d fail", n, kind+1)
		}
	}
}

// eachValues goes through all values within d, one for each variable.
func eachValues(d []list, do func(v []int64)) {
	values := valuesOf(d)
	at := make([]int, len(d))
	for {
		var v []int64
		for x, l := range values {
			v = append(v, l[at[x]])
		}
		do(v)
		x := 0
		for x < len(d) && at[x] == len(values[x])-1 {
			at[x] = 0
			x++
		}
		if x == len(d) {
			return
		}
		at[x]++
	}
}

func within(v []int64, d []list) bool {
	for x := range v {
		if !slices.ContainsFunc(d[x], func(r api.Range) bool { return r.Lo <= v[x] && v[x] <= r.Hi }) {
			return false
		}
	}
	return len(v) == len(d)
}

// P12.3: all values for which a constraint holds are left, and there are none where it fails.
func TestNothingIsLost(t *testing.T) {
	random := rand.New(rand.NewPCG(12, 3))
	held, failed := 0, 0
	for i := range 3000 {
		c, d := chance(random, 1+i%3, random.IntN(4), 5)
		out, err := linear.Narrow(c, d)
		if err == api.ErrFail {
			failed++
		}
		eachValues(d, func(v []int64) {
			if !sense.Holds(c, v) {
				return
			}
			held++
			if err != api.OK || !within(v, out) {
				t.Errorf("Narrow(%s) loses %v", told(c, d), v)
			}
		})
	}
	if held < 3000 || failed < 300 {
		t.Errorf("%d values held, %d constraints failed", held, failed)
	}
}

// isPart tells whether a's domains have no values that b's domains don't have.
func isPart(a, b []list) bool {
	if len(a) != len(b) {
		return false
	}
	values, more := valuesOf(a), valuesOf(b)
	for x, l := range values {
		for _, v := range l {
			if !slices.Contains(more[x], v) {
				return false
			}
		}
	}
	return true
}

// P12.4: no domain gains a value, and none is lost or empty.
func TestLess(t *testing.T) {
	random := rand.New(rand.NewPCG(12, 4))
	for i := range 6000 {
		c, d := chance(random, 1+i%3, random.IntN(6), 12)
		out, err := linear.Narrow(c, d)
		if err == api.OK && !isPart(out, d) || err != api.OK && out != nil {
			t.Errorf("Narrow(%s) = %v, %d", told(c, d), out, err)
		}
		for _, domain := range out {
			if len(domain) == 0 {
				t.Errorf("Narrow(%s) = %v", told(c, d), out)
			}
		}
	}
}

// partOf are domains with some of the values of d, at least one each.
func partOf(random *rand.Rand, d []list) []list {
	values := valuesOf(d)
	for x, l := range values {
		keep := l[random.IntN(len(l))]
		share := random.IntN(5)
		values[x] = slices.DeleteFunc(l, func(v int64) bool { return v != keep && random.IntN(5) < share })
	}
	return formOf(values)
}

// expectOrder expects that smaller domains have smaller results, or fail.
func expectOrder(t *testing.T, c api.Con, small, great []list) {
	t.Helper()
	less, err := linear.Narrow(c, small)
	more, greatErr := linear.Narrow(c, great)
	if err == api.OK && (greatErr != api.OK || !isPart(less, more)) {
		t.Errorf("Narrow(%s) = %v; of smaller domains: %v", told(c, great), more, less)
	}
}

// P12.5: small domains and all their parts.
func TestOrderSmall(t *testing.T) {
	domains := domainsFrom(-1, 3)
	for _, small := range domains {
		for _, great := range domains {
			if !isPart([]list{small}, []list{great}) {
				continue
			}
			for _, other := range domains {
				for kind := api.LinEq; kind <= api.LinNe; kind++ {
					eachRow(3, -2, 2, func(n []int64) {
						expectOrder(t, con(kind, n[2], n[:2]...), []list{small, other}, []list{great, other})
						expectOrder(t, on([]int{0, 0}, kind, n[2], n[:2]...), []list{small}, []list{great})
					})
				}
			}
		}
	}
}

// P12.5: greater domains and their parts, by chance.
func TestOrder(t *testing.T) {
	random := rand.New(rand.NewPCG(12, 5))
	for i := range 9000 {
		c, d := chance(random, 1+i%3, random.IntN(6), 9)
		expectOrder(t, c, partOf(random, d), d)
	}
}

// P12.6: each end that a LinLe of distinct variables leaves belongs to values for which it holds.
func TestEndsHold(t *testing.T) {
	random := rand.New(rand.NewPCG(12, 6))
	left := 0
	for range 3000 {
		c, d := chance(random, api.LinLe, random.IntN(4), 5)
		d = d[:min(len(d), len(c.X))]
		for len(d) < len(c.X) {
			d = append(d, chanceDomain(random, 5))
		}
		for i, x := range random.Perm(len(c.X)) {
			c.X[i] = x
		}
		out, err := linear.Narrow(c, d)
		if err != api.OK {
			continue
		}
		left++
		for x, domain := range out {
			for _, end := range []int64{domain[0].Lo, domain[len(domain)-1].Hi} {
				held := false
				eachValues(d, func(v []int64) { held = held || v[x] == end && sense.Holds(c, v) })
				if !held {
					t.Errorf("Narrow(%s) = %v, but nothing holds for %d", told(c, d), out, end)
				}
			}
		}
	}
	if left < 1000 {
		t.Errorf("only %d have not failed", left)
	}
}
