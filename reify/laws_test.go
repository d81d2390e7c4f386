package reify_test

import (
	"math/rand/v2"
	"slices"
	"testing"

	"touchstone/api"
	"touchstone/linear"
	"touchstone/reify"
	"touchstone/sense"
)

// chanceDomain is a domain of up to four ranges, from -limit to limit.
func chanceDomain(random *rand.Rand, limit int64) list {
	var d list
	from := random.Int64N(2*limit+1) - limit
	for range 1 + random.IntN(4) {
		to := from + random.Int64N(max(1, limit/3))
		if to > limit {
			break
		}
		d = append(d, api.Range{Lo: from, Hi: to})
		from = to + 2 + random.Int64N(3)
	}
	if len(d) == 0 {
		return ranges(from, from)
	}
	return d
}

// chance is a constraint of n numbers, on some of up to n variables that have values up to a limit, and
// a flag, which now and then stands in the sum, too.
func chance(random *rand.Rand, kind, n int, limit int64) (api.Con, []list) {
	var d []list
	for range 1 + random.IntN(n+1) {
		d = append(d, chanceDomain(random, limit))
	}
	flag := random.IntN(len(d) + 1)
	d = slices.Insert(d, flag, flags()[random.IntN(3)])
	c := api.Con{Kind: kind, C: random.Int64N(2*limit+1) - limit}
	for range n {
		x := random.IntN(len(d))
		if x == flag && random.IntN(4) > 0 {
			x = (x + 1) % len(d)
		}
		c.X = append(c.X, x)
		c.A = append(c.A, random.Int64N(9)-4)
	}
	c.X = append(c.X, flag)
	return c, d
}

func flagOf(c api.Con) int {
	return c.X[len(c.X)-1]
}

// P13.1: longer sums, over greater domains, by chance.
func TestChance(t *testing.T) {
	random := rand.New(rand.NewPCG(13, 1))
	fails, decided := [7]int{}, [7]int{}
	for i := range 12000 {
		c, d := chance(random, 4+i%3, random.IntN(7), []int64{3, 9, 40}[random.IntN(3)])
		expectJudged(t, c, d)
		out, err := reify.Narrow(c, d)
		if err == api.ErrFail {
			fails[c.Kind]++
		} else if !slices.Equal(out[flagOf(c)], d[flagOf(c)]) {
			decided[c.Kind]++
		}
	}
	for _, kind := range kinds() {
		if fails[kind] < 30 || fails[kind] > 3000 || decided[kind] < 200 {
			t.Errorf("%d of Kind %d fail, %d decide their flags", fails[kind], kind, decided[kind])
		}
	}
}

// eachValues goes through all values within d, one for each variable.
func eachValues(d []list, do func(v []int64)) {
	values := valuesOf(d)
	at := make([]int, len(d))
	for {
		var v []int64
		for x, l := range values {
			v = append(v, l[at[x]])
		}
		do(v)
		x := 0
		for x < len(d) && at[x] == len(values[x])-1 {
			at[x] = 0
			x++
		}
		if x == len(d) {
			return
		}
		at[x]++
	}
}

func within(v []int64, d []list) bool {
	for x := range v {
		if !slices.ContainsFunc(d[x], func(r api.Range) bool { return r.Lo <= v[x] && v[x] <= r.Hi }) {
			return false
		}
	}
	return len(v) == len(d)
}

// P13.2: all values for which a constraint holds are left, and there are none where it fails.
func TestNothingIsLost(t *testing.T) {
	random := rand.New(rand.NewPCG(13, 2))
	held, failed := 0, 0
	for i := range 4500 {
		c, d := chance(random, 4+i%3, random.IntN(4), 5)
		out, err := reify.Narrow(c, d)
		if err == api.ErrFail {
			failed++
		}
		eachValues(d, func(v []int64) {
			if !sense.Holds(c, v) {
				return
			}
			held++
			if err != api.OK || !within(v, out) {
				t.Errorf("Narrow(%s) loses %v", told(c, d), v)
			}
		})
	}
	if held < 3000 || failed < 300 {
		t.Errorf("%d values held, %d constraints failed", held, failed)
	}
}

// isPart tells whether a's domains have no values that b's domains don't have.
func isPart(a, b []list) bool {
	if len(a) != len(b) {
		return false
	}
	values, more := valuesOf(a), valuesOf(b)
	for x, l := range values {
		for _, v := range l {
			if !slices.Contains(more[x], v) {
				return false
			}
		}
	}
	return true
}

// P13.3: no domain gains a value, and none is lost or empty.
func TestLess(t *testing.T) {
	random := rand.New(rand.NewPCG(13, 3))
	for i := range 6000 {
		c, d := chance(random, 4+i%3, random.IntN(6), 12)
		out, err := reify.Narrow(c, d)
		if err == api.OK && !isPart(out, d) || err != api.OK && out != nil {
			t.Errorf("Narrow(%s) = %v, %d", told(c, d), out, err)
		}
		for _, domain := range out {
			if len(domain) == 0 {
				t.Errorf("Narrow(%s) = %v", told(c, d), out)
			}
		}
	}
}

// partOf are domains with some of the values of d, at least one each.
func partOf(random *rand.Rand, d []list) []list {
	values := valuesOf(d)
	for x, l := range values {
		keep := l[random.IntN(len(l))]
		share := random.IntN(5)
		values[x] = slices.DeleteFunc(l, func(v int64) bool { return v != keep && random.IntN(5) < share })
	}
	return formOf(values)
}

// expectOrder expects that smaller domains have smaller results, or fail.
func expectOrder(t *testing.T, c api.Con, small, great []list) {
	t.Helper()
	less, err := reify.Narrow(c, small)
	more, greatErr := reify.Narrow(c, great)
	if err == api.OK && (greatErr != api.OK || !isPart(less, more)) {
		t.Errorf("Narrow(%s) = %v; of smaller domains: %v", told(c, great), more, less)
	}
}

// P13.3: small domains and all their parts, with a flag and all its parts.
func TestOrderSmall(t *testing.T) {
	domains := domainsFrom(-1, 3)
	each := func(domains []list, do func(small, great list)) {
		for _, small := range domains {
			for _, great := range domains {
				if isPart([]list{small}, []list{great}) {
					do(small, great)
				}
			}
		}
	}
	each(domains, func(small, great list) {
		each(flags(), func(flag, greatFlag list) {
			for _, kind := range kinds() {
				eachRow(3, -2, 2, func(n []int64) {
					expectOrder(t, on([]int{0, 0, 1}, kind, n[2], n[:2]...), with(flag, small), with(greatFlag, great))
					expectOrder(t, on([]int{0, 1, 1}, kind, n[2], n[:2]...), with(flag, small), with(greatFlag, great))
					for _, other := range []list{ranges(1, 1), ranges(-1, 0), ranges(-1, -1, 1, 1)} {
						expectOrder(t, con(kind, n[2], n[:2]...), with(flag, small, other), with(greatFlag, great, other))
					}
				})
			}
		})
	})
}

// P13.3: greater domains and their parts, by chance.
func TestOrder(t *testing.T) {
	random := rand.New(rand.NewPCG(13, 33))
	for i := range 9000 {
		c, d := chance(random, 4+i%3, random.IntN(6), 9)
		expectOrder(t, c, partOf(random, d), d)
	}
}

// P13.4: the flag is decided where all others have a single value; that of a LinLeImp stays open only if its sum is at most C.
func TestDecided(t *testing.T) {
	random := rand.New(rand.NewPCG(13, 4))
	decided := map[int64]int{}
	for i := range 9000 {
		c, d := chance(random, 4+i%3, random.IntN(6), 9)
		flag := flagOf(c)
		if slices.Contains(c.X[:len(c.A)], flag) {
			continue
		}
		for x := range d {
			if x != flag {
				d[x] = ranges(d[x][0].Lo, d[x][0].Lo)
			}
		}
		if i%2 == 0 {
			ends, _ := linear.Ends(c, d)
			c.C = ends.Lo + random.Int64N(3) - 1
		}
		out, err := reify.Narrow(c, d)
		if err == api.ErrFail {
			continue
		}
		isOpen := slices.Equal(out[flag], maybe())
		if isOpen != (c.Kind == api.LinLeImp && slices.Equal(d[flag], maybe()) && holdsFor(c, out, 1)) {
			t.Errorf("Narrow(%s) = %v", told(c, d), out)
		}
		if !isOpen {
			decided[out[flag][0].Lo]++
			if !holdsFor(c, out, out[flag][0].Lo) {
				t.Errorf("Narrow(%s) = %v, for which it doesn't hold", told(c, d), out)
			}
		}
	}
	if decided[0] < 1000 || decided[1] < 500 {
		t.Errorf("decided: %v", decided)
	}
}

// holdsFor tells whether c holds for the first values of domains, and this value of its flag.
func holdsFor(c api.Con, d []list, flag int64) bool {
	var v []int64
	for _, domain := range d {
		v = append(v, domain[0].Lo)
	}
	v[flagOf(c)] = flag
	return sense.Holds(c, v)
}

// P13.1: with the flag 1 a constraint narrows as the one of layer 12 that says the same of its sum; so
// does LinEqReif with the flag 0.
func TestAsLinear(t *testing.T) {
	random := rand.New(rand.NewPCG(13, 5))
	for range 3000 {
		c, d := chance(random, 0, random.IntN(6), 9)
		for _, row := range []struct {
			kind, plain int
			flag        list
		}{
			{api.LinEqReif, api.LinEq, yes()},
			{api.LinLeReif, api.LinLe, yes()},
			{api.LinLeImp, api.LinLe, yes()},
			{api.LinEqReif, api.LinNe, no()},
		} {
			d[flagOf(c)] = row.flag
			want, err := linear.Narrow(on(c.X[:len(c.A)], row.plain, c.C, c.A...), d)
			expectNarrow(t, on(c.X, row.kind, c.C, c.A...), d, want, err)
		}
		// A sum above C is one that is, turned round, at most -C - 1.
		d[flagOf(c)] = no()
		want, err := linear.Narrow(on(c.X[:len(c.A)], api.LinLe, -c.C-1, minus(c.A)...), d)
		expectNarrow(t, on(c.X, api.LinLeReif, c.C, c.A...), d, want, err)
	}
}
