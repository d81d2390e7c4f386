package reify_test

import (
	"fmt"
	"slices"
	"testing"

	"touchstone/api"
	"touchstone/reify"
)

type list = []api.Range

const (
	least    = -1 << 63
	greatest = 1<<63 - 1
	most     = 1048576
)

// ranges is the list of the ranges that pairs of ends tell.
func ranges(ends ...int64) list {
	var l list
	for i := 0; i < len(ends); i += 2 {
		l = append(l, api.Range{Lo: ends[i], Hi: ends[i+1]})
	}
	return l
}

// The domains that a flag may have.
func no() list    { return ranges(0, 0) }
func yes() list   { return ranges(1, 1) }
func maybe() list { return ranges(0, 1) }

func flags() []list {
	return []list{no(), yes(), maybe()}
}

// kinds are those that Narrow takes.
func kinds() []int {
	return []int{api.LinEqReif, api.LinLeReif, api.LinLeImp}
}

// con is a constraint on the first variables, one more than there are numbers.
func con(kind int, c int64, a ...int64) api.Con {
	return on(places(len(a)+1), kind, c, a...)
}

// on is a constraint on the variables x.
func on(x []int, kind int, c int64, a ...int64) api.Con {
	return api.Con{Kind: kind, X: x, A: a, C: c}
}

// places are the first n variables.
func places(n int) []int {
	var x []int
	for i := range n {
		x = append(x, i)
	}
	return x
}

func valuesOf(d []list) [][]int64 {
	var values [][]int64
	for _, domain := range d {
		var l []int64
		for _, r := range domain {
			for v := r.Lo; v <= r.Hi; v++ {
				l = append(l, v)
			}
		}
		values = append(values, l)
	}
	return values
}

// formOf is the only form of domains with these values, which are sorted.
func formOf(values [][]int64) []list {
	var d []list
	for _, l := range values {
		var domain list
		for i, v := range l {
			if i > 0 && v == l[i-1]+1 {
				domain[len(domain)-1].Hi = v
			} else {
				domain = append(domain, api.Range{Lo: v, Hi: v})
			}
		}
		d = append(d, domain)
	}
	return d
}

// judged is what Narrow is to answer for a constraint of its Kinds that fits d, told by the chapter's own words.
func judged(c api.Con, d []list) ([]list, api.Errno) {
	values, ok := valuesOf(d), true
	flag := c.X[len(c.X)-1]
	m, M := endsOf(c, values)
	switch fmt.Sprint(c.Kind, values[flag]) {
	case "6 [1]", "5 [1]":
		values, ok = bounded(c.A, c.X, c.C, values)
	case "5 [0]":
		values, ok = bounded(minus(c.A), c.X, -c.C-1, values)
	case "4 [1]":
		values, ok = bounded(c.A, c.X, c.C, values)
		if ok {
			values, ok = bounded(minus(c.A), c.X, -c.C, values)
		}
	case "4 [0]":
		values, ok = differing(c, values)
	case "6 [0]", "6 [0 1]":
		lose(values, flag, 1, m > c.C)
	case "5 [0 1]":
		lose(values, flag, 0, M <= c.C)
		lose(values, flag, 1, m > c.C)
	case "4 [0 1]":
		lose(values, flag, 0, m == c.C && M == c.C)
		lose(values, flag, 1, c.C < m || c.C > M)
	}
	if !ok {
		return nil, api.ErrFail
	}
	return formOf(values), api.OK
}

// lose takes v from a variable, if it is to.
func lose(values [][]int64, x int, v int64, is bool) {
	values[x] = slices.DeleteFunc(values[x], func(w int64) bool { return is && v == w })
}

func endsOf(c api.Con, values [][]int64) (int64, int64) {
	m, M := int64(0), int64(0)
	for i, n := range c.A {
		l := values[c.X[i]]
		m += min(n*slices.Min(l), n*slices.Max(l))
		M += max(n*slices.Min(l), n*slices.Max(l))
	}
	return m, M
}

func minus(l []int64) []int64 {
	var turned []int64
	for _, n := range l {
		turned = append(turned, -n)
	}
	return turned
}

// bounded asks of each value of each variable, at each of its positions, whether it is lost.
func bounded(a []int64, x []int, n int64, values [][]int64) ([][]int64, bool) {
	m, _ := endsOf(api.Con{X: x, A: a}, values)
	if m > n {
		return nil, false
	}
	var left [][]int64
	for y, l := range values {
		left = append(left, nil)
		for _, v := range l {
			lost := false
			for i := range a {
				lost = lost || x[i] == y && a[i] > 0 && a[i]*(v-slices.Min(l)) > n-m
				lost = lost || x[i] == y && a[i] < 0 && a[i]*(v-slices.Max(l)) > n-m
			}
			if !lost {
				left[y] = append(left[y], v)
			}
		}
		if len(left[y]) == 0 {
			return nil, false
		}
	}
	return left, true
}

// differing tries each value of the only position that is open.
func differing(c api.Con, values [][]int64) ([][]int64, bool) {
	var open []int
	s := int64(0)
	for i, n := range c.A {
		if l := values[c.X[i]]; n != 0 && len(l) > 1 {
			open = append(open, i)
		} else if n != 0 {
			s += n * l[0]
		}
	}
	if len(open) == 0 {
		return values, s != c.C
	}
	if len(open) > 1 {
		return values, true
	}
	x, n := c.X[open[0]], c.A[open[0]]
	values[x] = slices.DeleteFunc(values[x], func(v int64) bool { return s+n*v == c.C })
	return values, len(values[x]) > 0
}

func sameDomains(a, b []list) bool {
	return slices.EqualFunc(a, b, slices.Equal[list])
}

// told writes a constraint and domains down, not at any length.
func told(c api.Con, d []list) string {
	return fmt.Sprintf("%.600s", fmt.Sprintf("Kind %d, X %v, A %v, C %d, domains %v", c.Kind, c.X, c.A, c.C, d))
}

func expectNarrow(t *testing.T, c api.Con, d []list, want []list, wantErr api.Errno) {
	t.Helper()
	out, err := reify.Narrow(c, d)
	if err != wantErr || !sameDomains(out, want) {
		t.Errorf("Narrow(%s) = %.300s, %d", told(c, d), fmt.Sprint(out), err)
	}
}

// expectJudged holds Narrow against the judge.
func expectJudged(t *testing.T, c api.Con, d []list) {
	t.Helper()
	want, err := judged(c, d)
	expectNarrow(t, c, d, want, err)
}

// eachRow goes through all rows of n numbers from lo to hi; whoever gets a row may keep it, or spoil it.
func eachRow(n int, lo, hi int64, do func(row []int64)) {
	row := slices.Repeat([]int64{lo}, n)
	for {
		do(slices.Clone(row))
		i := 0
		for i < n && row[i] == hi {
			row[i] = lo
			i++
		}
		if i == n {
			return
		}
		row[i]++
	}
}

// domainsFrom are all domains of n integers that follow one another, the first of which is from.
func domainsFrom(from int64, n int) []list {
	var all []list
	for bits := 1; bits < 1<<n; bits++ {
		var l []int64
		for i := range n {
			if bits>>i&1 == 1 {
				l = append(l, from+int64(i))
			}
		}
		all = append(all, formOf([][]int64{l})[0])
	}
	return all
}
