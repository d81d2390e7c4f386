package sense_test

import (
	"fmt"
	"math/rand/v2"
	"slices"
	"sync"
	"testing"

	"touchstone/api"
	"touchstone/sense"
)

// chance are n numbers from -limit to limit.
func chance(random *rand.Rand, n int, limit int64) []int64 {
	var l []int64
	for range n {
		l = append(l, random.Int64N(2*limit+1)-limit)
	}
	return l
}

// eachLinear goes through small sums, and long ones by chance, up to the greatest; C is often the sum, or next to it.
func eachLinear(longest int, do func(n []int64, c int64, v []int64)) {
	eachRow(2, -2, 2, func(n []int64) {
		eachRow(2, -3, 3, func(v []int64) {
			for c := int64(-4); c <= 4; c++ {
				do(n, c, v)
			}
		})
	})
	random := rand.New(rand.NewPCG(11, 3))
	for range 5000 {
		limit := []int64{1, 4, 100, most}[random.IntN(4)]
		n := chance(random, random.IntN(longest+1), limit)
		v := chance(random, len(n), []int64{1, 4, 100, most}[random.IntN(4)])
		sum := int64(0)
		for i := range n {
			sum += n[i] * v[i]
		}
		c := random.Int64N(2*limit+1) - limit
		if inside(sum-1) && inside(sum+1) {
			c = sum + random.Int64N(3) - 1
		}
		do(n, c, v)
	}
}

// P11.3: what constraints with a flag are equivalent to, for each value of the flag.
func TestKin(t *testing.T) {
	held := [2]int{}
	eachLinear(31, func(n []int64, c int64, v []int64) {
		plain := func(kind int) bool { return sense.Holds(con(kind, len(v), c, n...), v) }
		flagged := func(kind int, flag int64) bool {
			return sense.Holds(con(kind, len(v)+1, c, n...), append(slices.Clone(v), flag))
		}
		eq, le, ne := plain(api.LinEq), plain(api.LinLe), plain(api.LinNe)
		if flagged(api.LinEqReif, 1) != eq || flagged(api.LinLeReif, 1) != le || flagged(api.LinLeImp, 1) != le {
			t.Errorf("flag 1: %v, %d, %v", n, c, v)
		}
		if flagged(api.LinEqReif, 0) != ne || flagged(api.LinLeReif, 0) == le || !flagged(api.LinLeImp, 0) {
			t.Errorf("flag 0: %v, %d, %v", n, c, v)
		}
		if eq == ne || eq && !le {
			t.Errorf("without a flag: %v, %d, %v: %v, %v, %v", n, c, v, eq, le, ne)
		}
		held[map[bool]int{false: 0, true: 1}[eq]]++
	})
	if held[0] < 1000 || held[1] < 1000 {
		t.Errorf("too few of one kind: %v", held)
	}
}

// minus are the numbers of l, multiplied by -1.
func minus(l []int64) []int64 {
	var turned []int64
	for _, n := range l {
		turned = append(turned, -n)
	}
	return turned
}

// P11.4: LinEq and LinNe with all numbers multiplied by -1.
func TestTurnedSums(t *testing.T) {
	eachLinear(32, func(n []int64, c int64, v []int64) {
		for _, kind := range []int{api.LinEq, api.LinNe} {
			one, turned := con(kind, len(v), c, n...), con(kind, len(v), -c, minus(n)...)
			if sense.Holds(one, v) != sense.Holds(turned, v) {
				t.Errorf("%s, turned: %v", told(one, v), sense.Holds(turned, v))
			}
			sum, ok := sense.Sum(one, v)
			expectSum(t, turned, v, -sum, ok)
			if !ok {
				t.Errorf("no sum: %s", told(one, v))
			}
		}
	})
}

// P11.4: AllDiff and Cumulative with their variables in any order.
func TestTurnedOrder(t *testing.T) {
	random := rand.New(rand.NewPCG(11, 4))
	held := map[bool]int{}
	for range 20000 {
		n := random.IntN(6)
		if random.IntN(20) == 0 {
			n = 32
		}
		v := chance(random, n, int64(1+random.IntN(30)))
		c := con(api.Cumulative, n, int64(random.IntN(8)))
		for range 2 * n {
			c.A = append(c.A, int64(random.IntN(5)))
		}
		turned := api.Con{Kind: api.Cumulative, C: c.C, A: make([]int64, 2*n)}
		for i, p := range random.Perm(n) {
			turned.X = append(turned.X, p)
			turned.A[i], turned.A[n+i] = c.A[p], c.A[n+p]
		}
		want := sense.Holds(c, v)
		expectHolds(t, turned, v, want)
		held[want]++
		differ := sense.Holds(con(api.AllDiff, n, 0), v)
		expectHolds(t, api.Con{Kind: api.AllDiff, X: turned.X}, v, differ)
	}
	if held[false] < 3000 || held[true] < 3000 {
		t.Errorf("too few of one kind: %v", held)
	}
}

// P11.4: Cumulative with the same number added to all values, also where they meet the limits.
func TestTurnedTime(t *testing.T) {
	random := rand.New(rand.NewPCG(11, 44))
	held := map[bool]int{}
	for range 10000 {
		n := 1 + random.IntN(6)
		v := chance(random, n, 6)
		c := con(api.Cumulative, n, int64(random.IntN(8)))
		for range 2 * n {
			c.A = append(c.A, int64(random.IntN(5)))
		}
		want := sense.Holds(c, v)
		held[want]++
		for _, shift := range []int64{1, -1, random.Int64N(1000), most - slices.Max(v), -most - slices.Min(v)} {
			moved := slices.Clone(v)
			for i := range moved {
				moved[i] += shift
			}
			expectHolds(t, c, moved, want)
		}
		// Beyond the limits it is not well-formed.
		expectHolds(t, c, with(v, random.IntN(n), most+1), false)
	}
	if held[false] < 2000 || held[true] < 2000 {
		t.Errorf("too few of one kind: %v", held)
	}
}

// P11.5: variables that occur in no constraint, here the first, the third and the last one.
func TestFew(t *testing.T) {
	m := api.Model{
		Doms: [][]api.Range{ranges(-1, 0, 2, 2), ranges(0, 3), ranges(most, most), ranges(1, 2), ranges(0, 1), ranges(-most, -most, 0, 2)},
		Cons: []api.Con{
			{Kind: api.LinLeReif, X: []int{1, 3, 4}, A: []int64{1, -1}},
			{Kind: api.AllDiff, X: []int{3, 1}},
		},
		Ask: api.Maximize, Goal: 5,
	}
	free, count := []int{0, 2, 5}, 0
	values := map[int][]int64{0: {-1, 0, 2}, 2: {most}, 5: {-most, 0, 1, 2}}
	outside := map[int][]int64{0: {-2, 1, 3}, 2: {most - 1, most + 1}, 5: {-most + 1, -1, 3, least}}
	eachRow(3, 0, 3, func(bound []int64) {
		first := []int64{0, bound[0], most, bound[1], bound[2], 0}
		solved := sense.All(m, first)
		if solved != judgedAll(m, first) {
			t.Errorf("All(%v) = %v", first, solved)
		}
		if solved {
			count++
		}
		for _, x := range free {
			for _, v := range values[x] {
				expectAll(t, m, with(first, x, v), solved)
				expectAll(t, m, with(with(first, x, v), 0, 2), solved)
			}
			for _, v := range outside[x] {
				expectAll(t, m, with(first, x, v), false)
			}
		}
	})
	if count != 6 {
		t.Errorf("%d solutions of the constraints", count)
	}
}

// whole is a list of numbers in front of which, and behind which, there are others in the same memory.
func whole(l []int64) (all, part []int64) {
	all = append(append([]int64{71, 72}, l...), 73, 74, 75)
	return all, all[2 : 2+len(l)]
}

// R6: nothing that is handed in is changed, not even behind its end.
func TestNothingChanged(t *testing.T) {
	cons, values := samples()
	for i := range cons {
		for _, v := range [][]int64{values[i], same(len(values[i]), 0), same(len(values[i]), most+1)} {
			allA, a := whole(v)
			allN, n := whole(cons[i].A)
			allX := append(slices.Clone(cons[i].X), 81, 82, 83)
			c := api.Con{Kind: cons[i].Kind, X: allX[:len(cons[i].X)], A: n, C: cons[i].C}
			m := api.Model{Doms: domains(3, 0, 1, 5, 9), Cons: []api.Con{c, c}, Ask: api.Maximize}
			before := fmt.Sprint(allA, allN, allX, m)
			for range 2 {
				sense.Holds(c, a)
				sense.Sum(c, a)
				sense.All(m, a)
				sense.Better(m, a, a)
				if now := fmt.Sprint(allA, allN, allX, m); now != before {
					t.Fatalf("%s became %s", before, now)
				}
			}
		}
	}
}

// R4: answers depend on nothing but the arguments, also where several calls run at once on the same ones.
func TestSameAnswers(t *testing.T) {
	cons, values := samples()
	m := mixed()
	var wait sync.WaitGroup
	for range 8 {
		wait.Go(func() {
			for range 20 {
				for i, c := range cons {
					expectHolds(t, c, values[i], true)
					expectHolds(t, c, nil, len(c.X) == 0)
				}
				expectAll(t, m, []int64{0, 2, 0, 1, 2}, true)
				expectAll(t, m, []int64{0, 2, 0, 1, 3}, false)
				expectBetter(t, m, []int64{0, 2, 0, 1, 2}, []int64{0, 3, 0, 1, 3}, true)
				expectSum(t, m.Cons[0], []int64{1, 2, 0, 1, 2}, 3, true)
			}
		})
	}
	wait.Wait()
}
