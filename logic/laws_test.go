package logic_test

import (
	"math/rand/v2"
	"slices"
	"strings"
	"testing"

	"touchstone/api"
	"touchstone/logic"
	"touchstone/sense"
)

// chance is a constraint on some of up to twelve variables, which may stand at several positions, and
// their states, most of which are those that leave something to be decided.
func chance(random *rand.Rand) (api.Con, string) {
	kind := kinds()[random.IntN(4)]
	letters := []string{"01?", "0001?", "0111?", "0000000?", "1111111?", "0?", "1?", "?"}[random.IntN(8)]
	states := ""
	for range 1 + random.IntN(12) {
		states += letters[random.IntN(len(letters)):][:1]
	}
	n := 3
	if kind != api.Xor {
		n = 1 + random.IntN(len(states)+2)
	}
	c := api.Con{Kind: kind}
	for range n {
		c.X = append(c.X, random.IntN(len(states)))
	}
	if random.IntN(2) == 0 && n <= len(states) {
		c.X = random.Perm(len(states))[:n]
	}
	if kind == api.Clause {
		share := random.IntN(5)
		for range n {
			c.A = append(c.A, []int64{-1, 1}[min(1, random.IntN(5)/(share+1))])
		}
	}
	return c, states
}

// P15.1: longer constraints, by chance.
func TestChance(t *testing.T) {
	random := rand.New(rand.NewPCG(15, 1))
	fails, changes, kept := map[int]int{}, map[int]int{}, map[int]int{}
	for range 40000 {
		c, states := chance(random)
		expectJudged(t, c, states)
		out, err := logic.Narrow(c, doms(states))
		switch {
		case err == api.ErrFail:
			fails[c.Kind]++
		case sameDomains(out, doms(states)):
			kept[c.Kind]++
		default:
			changes[c.Kind]++
		}
	}
	for _, kind := range kinds() {
		if fails[kind] < 300 || changes[kind] < 500 || kept[kind] < 1000 {
			t.Errorf("of Kind %d, %d fail, %d are narrowed and %d are not", kind, fails[kind], changes[kind], kept[kind])
		}
	}
}

// eachValues goes through all values within these states, one for each variable.
func eachValues(states string, do func(v []int64)) {
	eachText(strings.Count(states, "?"), "01", func(chosen string) {
		var v []int64
		for _, s := range states {
			if s == '?' {
				v = append(v, int64(chosen[0]-'0'))
				chosen = chosen[1:]
			} else {
				v = append(v, int64(s-'0'))
			}
		}
		do(v)
	})
}

func within(v []int64, d []list) bool {
	for x := range v {
		if !slices.ContainsFunc(d[x], func(r api.Range) bool { return r.Lo <= v[x] && v[x] <= r.Hi }) {
			return false
		}
	}
	return len(v) == len(d)
}

// expectNothingLost expects that all values for which c holds are left, and that there are none where it fails.
func expectNothingLost(t *testing.T, c api.Con, states string) {
	t.Helper()
	out, err := logic.Narrow(c, doms(states))
	eachValues(states, func(v []int64) {
		if sense.Holds(c, v) && (err != api.OK || !within(v, out)) {
			t.Errorf("Narrow(%s) loses %v", told(c, doms(states)), v)
		}
	})
}

// P15.2: small constraints whose variables may stand at several positions.
func TestNothingIsLostSmall(t *testing.T) {
	eachX(3, 4, func(x []int) {
		eachOn(x, func(c api.Con) {
			eachText(3, "01?", func(states string) { expectNothingLost(t, c, states) })
		})
	})
}

// P15.2: greater ones, by chance.
func TestNothingIsLost(t *testing.T) {
	random := rand.New(rand.NewPCG(15, 2))
	for range 4000 {
		c, states := chance(random)
		expectNothingLost(t, c, states)
	}
}

// isPart tells whether a's domains have no values that b's domains don't have.
func isPart(a, b []list) bool {
	if len(a) != len(b) {
		return false
	}
	for x := range a {
		for _, r := range a[x] {
			if !slices.ContainsFunc(b[x], func(more api.Range) bool { return more.Lo <= r.Lo && r.Hi <= more.Hi }) {
				return false
			}
		}
	}
	return true
}

// P15.3: no domain gains a value, and none is lost or empty.
func TestLess(t *testing.T) {
	random := rand.New(rand.NewPCG(15, 3))
	for range 15000 {
		c, states := chance(random)
		out, err := logic.Narrow(c, doms(states))
		if err == api.OK && !isPart(out, doms(states)) || err != api.OK && out != nil {
			t.Errorf("Narrow(%s) = %v, %d", told(c, doms(states)), out, err)
		}
		for _, domain := range out {
			if len(domain) == 0 {
				t.Errorf("Narrow(%s) = %v", told(c, doms(states)), out)
			}
		}
	}
}

// expectOrder expects that smaller domains have smaller results, or fail.
func expectOrder(t *testing.T, c api.Con, small, great string) {
	t.Helper()
	less, err := logic.Narrow(c, doms(small))
	more, greatErr := logic.Narrow(c, doms(great))
	if err == api.OK && (greatErr != api.OK || !isPart(less, more)) {
		t.Errorf("Narrow(%s) = %v; of smaller domains: %v", told(c, doms(great)), more, less)
	}
}

// eachPart goes through all states that are a part of these.
func eachPart(states string, do func(part string)) {
	if states == "" {
		do("")
		return
	}
	letters := states[:1]
	if letters == "?" {
		letters = "01?"
	}
	for _, l := range letters {
		eachPart(states[1:], func(part string) { do(string(l) + part) })
	}
}

// P15.3: all states of small constraints and all their parts.
func TestOrderSmall(t *testing.T) {
	for n := range 5 {
		eachOn(places(n), func(c api.Con) {
			eachText(n, "01?", func(great string) {
				eachPart(great, func(small string) { expectOrder(t, c, small, great) })
			})
		})
	}
	eachX(2, 4, func(x []int) {
		eachOn(x, func(c api.Con) {
			eachText(2, "01?", func(great string) {
				eachPart(great, func(small string) { expectOrder(t, c, small, great) })
			})
		})
	})
}

// P15.3: greater ones, by chance.
func TestOrder(t *testing.T) {
	random := rand.New(rand.NewPCG(15, 33))
	for range 20000 {
		c, great := chance(random)
		var small []byte
		for _, s := range great {
			if s == '?' {
				s = rune("01??"[random.IntN(4)])
			}
			small = append(small, byte(s))
		}
		expectOrder(t, c, string(small), great)
	}
}

// hull are the domains of all values within these states for which c holds; false if there are none.
func hull(c api.Con, states string) ([]list, bool) {
	var all []string
	eachValues(states, func(v []int64) {
		if sense.Holds(c, v) {
			text := ""
			for _, n := range v {
				text += string(rune('0' + n))
			}
			all = append(all, text)
		}
	})
	if len(all) == 0 {
		return nil, false
	}
	left := []byte(all[0])
	for _, text := range all {
		for x := range text {
			if text[x] != left[x] {
				left[x] = '?'
			}
		}
	}
	return doms(string(left)), true
}

// expectAll expects of a constraint whose variables are distinct that just the values for which it holds are left.
func expectAll(t *testing.T, c api.Con, states string) {
	t.Helper()
	want, ok := hull(c, states)
	out, err := logic.Narrow(c, doms(states))
	if ok && (err != api.OK || !sameDomains(out, want)) || !ok && err != api.ErrFail {
		t.Errorf("Narrow(%s) = %v, %d", told(c, doms(states)), out, err)
	}
}

// P15.4: small constraints.
func TestAllSmall(t *testing.T) {
	for n := range 6 {
		eachOn(places(n), func(c api.Con) {
			eachText(n, "01?", func(states string) { expectAll(t, c, states) })
		})
	}
}

// P15.4: greater ones, by chance.
func TestAll(t *testing.T) {
	random := rand.New(rand.NewPCG(15, 4))
	asked := map[int]int{}
	for range 12000 {
		c, states := chance(random)
		sorted := slices.Clone(c.X)
		slices.Sort(sorted)
		if len(slices.Compact(sorted)) == len(c.X) && strings.Count(states, "?") <= 8 {
			asked[c.Kind]++
			expectAll(t, c, states)
		}
	}
	for _, kind := range kinds() {
		if asked[kind] < 300 {
			t.Errorf("%d of Kind %d are asked", asked[kind], kind)
		}
	}
}

// exchanged are states with 0 and 1 exchanged.
func exchanged(states string) string {
	return strings.NewReplacer("0", "1", "1", "0").Replace(states)
}

// P15.1: Or is to And, and a clause to the one with the opposite signs, what 0 is to 1.
func TestExchanged(t *testing.T) {
	random := rand.New(rand.NewPCG(15, 5))
	for range 10000 {
		c, states := chance(random)
		opposite := c
		switch c.Kind {
		case api.And:
			opposite.Kind = api.Or
		case api.Or:
			opposite.Kind = api.And
		case api.Clause:
			opposite.A = slices.Clone(c.A)
			for i := range opposite.A {
				opposite.A[i] *= -1
			}
		default:
			continue
		}
		want, err := logic.Narrow(c, doms(states))
		for _, domain := range want {
			domain[0] = api.Range{Lo: 1 - domain[0].Hi, Hi: 1 - domain[0].Lo}
		}
		expectNarrow(t, opposite, doms(exchanged(states)), want, err)
	}
}
