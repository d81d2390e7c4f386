package elem_test

import (
	"math/rand/v2"
	"slices"
	"sync"
	"testing"

	"touchstone/api"
	"touchstone/elem"
)

// copied are domains that share no memory with d.
func copied(d []list) []list {
	var l []list
	for _, domain := range d {
		l = append(l, slices.Clone(domain))
	}
	return l
}

// roomy is l with memory behind its end, all of which is filled with v.
func roomy[E any](l []E, v E) []E {
	return append(slices.Clone(l), v, v, v)[: len(l) : len(l)+3]
}

// isRoom tells whether the memory behind l's end has still what roomy filled it with.
func isRoom[E any](l []E, is func(E) bool) bool {
	return !slices.ContainsFunc(l[len(l):cap(l)], func(v E) bool { return !is(v) })
}

// P16.1: nothing that is handed in is changed, nor the memory behind it.
func TestNothingIsChanged(t *testing.T) {
	random := rand.New(rand.NewPCG(16, 7))
	filled := api.Range{Lo: 77, Hi: 77}
	for range 5000 {
		c, d := chance(random, 7)
		given := api.Con{Kind: c.Kind, X: roomy(c.X, 77), A: roomy(c.A, 77)}
		var doms []list
		for _, domain := range d {
			doms = append(doms, roomy(domain, filled))
		}
		doms = roomy(doms, list{filled})
		elem.Narrow(given, doms)
		if !slices.Equal(given.X, c.X) || !slices.Equal(given.A, c.A) || !sameDomains(doms, d) {
			t.Fatalf("changed: (%s)", told(c, d))
		}
		same := isRoom(given.X, func(x int) bool { return x == 77 })
		same = same && isRoom(given.A, func(n int64) bool { return n == 77 })
		same = same && isRoom(doms, func(domain list) bool { return slices.Equal(domain, list{filled}) })
		for _, domain := range doms {
			same = same && isRoom(domain, func(r api.Range) bool { return r == filled })
		}
		if !same {
			t.Fatalf("changed behind the end: (%s)", told(c, d))
		}
	}
}

// P16.1: writing to a result changes neither what was handed in nor another part of the result.
func TestNothingIsShared(t *testing.T) {
	random := rand.New(rand.NewPCG(16, 8))
	for range 5000 {
		c, d := chance(random, 7)
		// The same list may be handed in as the domain of several variables.
		for x := range d {
			d[x] = d[random.IntN(x+1)]
		}
		given := copied(d)
		out, err := elem.Narrow(c, d)
		want := copied(out)
		for x := range out {
			for i := range out[x] {
				out[x][i] = api.Range{Lo: 99, Hi: 99}
			}
			_ = append(out[x], api.Range{Lo: 99, Hi: 99})
			for y := x + 1; y < len(out); y++ {
				if !slices.Equal(out[y], want[y]) {
					t.Fatalf("domains %d and %d of Narrow(%s) share memory", x, y, told(c, given))
				}
			}
		}
		clear(out)
		if !sameDomains(d, given) {
			t.Fatalf("Narrow(%s) shares memory with what was handed in", told(c, given))
		}
		expectNarrow(t, c, given, want, err)
	}
}

// P16.1: the answers depend on nothing but the arguments, also where several ask at the same time.
func TestSameAnswers(t *testing.T) {
	var group sync.WaitGroup
	for worker := range 8 {
		group.Add(1)
		go func() {
			defer group.Done()
			random := rand.New(rand.NewPCG(16, 9))
			for i := range 600 {
				c, d := chance(random, 7)
				if (i+worker)%4 == 0 {
					elem.Narrow(api.Con{Kind: 99}, d)
					elem.Narrow(api.Con{Kind: api.Element}, nil)
				}
				expectJudged(t, c, d)
			}
		}()
	}
	group.Wait()
}
