package linear_test

import (
	"math/rand/v2"
	"slices"
	"sync"
	"testing"

	"touchstone/api"
	"touchstone/linear"
)

// copied are domains that share no memory with d.
func copied(d []list) []list {
	var l []list
	for _, domain := range d {
		l = append(l, slices.Clone(domain))
	}
	return l
}

// roomy is l with memory behind its end, all of which is filled with v.
func roomy[E any](l []E, v E) []E {
	return append(slices.Clone(l), v, v, v)[: len(l) : len(l)+3]
}

// P12.1, P12.2: nothing that is handed in is changed, nor the memory behind it.
func TestNothingIsChanged(t *testing.T) {
	random := rand.New(rand.NewPCG(12, 7))
	for i := range 3000 {
		c, d := chance(random, 1+i%3, random.IntN(6), 9)
		given := api.Con{Kind: c.Kind, X: roomy(c.X, 77), A: roomy(c.A, 77), C: c.C}
		var doms []list
		for _, domain := range d {
			doms = append(doms, roomy(domain, api.Range{Lo: 77, Hi: 77}))
		}
		doms = roomy(doms, ranges(77, 77))
		linear.Narrow(given, doms)
		linear.Ends(given, doms)
		if !slices.Equal(given.X, c.X) || !slices.Equal(given.A, c.A) || !sameDomains(doms, d) {
			t.Fatalf("changed: (%s)", told(c, d))
		}
		behind := [][]int64{given.A[len(c.A):cap(given.A)]}
		for _, x := range given.X[len(c.X):cap(given.X)] {
			behind = append(behind, []int64{int64(x)})
		}
		for _, domain := range doms[:len(d)] {
			for _, r := range domain[len(domain):cap(domain)] {
				behind = append(behind, []int64{r.Lo, r.Hi})
			}
		}
		for _, domain := range doms[len(d):cap(doms)] {
			behind = append(behind, []int64{domain[0].Lo, domain[0].Hi})
		}
		for _, l := range behind {
			if slices.ContainsFunc(l, func(n int64) bool { return n != 77 }) {
				t.Fatalf("changed behind the end: (%s)", told(c, d))
			}
		}
	}
}

// P12.1: writing to a result changes neither what was handed in nor another part of the result.
func TestNothingIsShared(t *testing.T) {
	random := rand.New(rand.NewPCG(12, 8))
	for i := range 3000 {
		c, d := chance(random, 1+i%3, random.IntN(6), 9)
		// The same list may be handed in as the domain of several variables.
		for x := range d {
			d[x] = d[random.IntN(x+1)]
		}
		given := copied(d)
		out, _ := linear.Narrow(c, d)
		want := copied(out)
		for x := range out {
			for i := range out[x] {
				out[x][i] = api.Range{Lo: 99, Hi: 99}
			}
			_ = append(out[x], api.Range{Lo: 99, Hi: 99})
			for y := range out {
				if y > x && !slices.Equal(out[y], want[y]) {
					t.Fatalf("domains %d and %d of Narrow(%s) share memory", x, y, told(c, given))
				}
			}
		}
		clear(out)
		if !sameDomains(d, given) {
			t.Fatalf("Narrow(%s) shares memory with what was handed in", told(c, given))
		}
		expectNarrow(t, c, given, want, map[bool]api.Errno{true: api.OK, false: api.ErrFail}[want != nil])
	}
}

// P12.1, P12.2: the answers depend on nothing but the arguments, also where several ask at the same time.
func TestSameAnswers(t *testing.T) {
	var group sync.WaitGroup
	for worker := range 8 {
		group.Add(1)
		go func() {
			defer group.Done()
			random := rand.New(rand.NewPCG(12, 9))
			for i := range 400 {
				c, d := chance(random, 1+i%3, random.IntN(6), 9)
				if (i+worker)%4 == 0 {
					linear.Narrow(api.Con{Kind: 99}, d)
					linear.Ends(api.Con{Kind: 99}, nil)
				}
				expectJudged(t, c, d)
			}
		}()
	}
	group.Wait()
}
