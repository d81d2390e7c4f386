package linear_test

import (
	"fmt"
	"slices"
	"testing"

	"touchstone/api"
	"touchstone/linear"
)

type list = []api.Range

const (
	least    = -1 << 63
	greatest = 1<<63 - 1
	most     = 1048576
)

// ranges is the list of the ranges that pairs of ends tell.
func ranges(ends ...int64) list {
	var l list
	for i := 0; i < len(ends); i += 2 {
		l = append(l, api.Range{Lo: ends[i], Hi: ends[i+1]})
	}
	return l
}

// con is a constraint on the first variables, as many as there are numbers.
func con(kind int, c int64, a ...int64) api.Con {
	return on(places(len(a)), kind, c, a...)
}

// on is a constraint on the variables x.
func on(x []int, kind int, c int64, a ...int64) api.Con {
	return api.Con{Kind: kind, X: x, A: a, C: c}
}

// places are the first n variables.
func places(n int) []int {
	var x []int
	for i := range n {
		x = append(x, i)
	}
	return x
}

func valuesOf(d []list) [][]int64 {
	var values [][]int64
	for _, domain := range d {
		var l []int64
		for _, r := range domain {
			for v := r.Lo; v <= r.Hi; v++ {
				l = append(l, v)
			}
		}
		values = append(values, l)
	}
	return values
}

// formOf is the only form of domains with these values, which are sorted.
func formOf(values [][]int64) []list {
	var d []list
	for _, l := range values {
		var domain list
		for i, v := range l {
			if i > 0 && v == l[i-1]+1 {
				domain[len(domain)-1].Hi = v
			} else {
				domain = append(domain, api.Range{Lo: v, Hi: v})
			}
		}
		d = append(d, domain)
	}
	return d
}

// judged is what Narrow is to answer for a constraint of its Kinds that fits d, told by the chapter's own words.
func judged(c api.Con, d []list) ([]list, api.Errno) {
	values, ok := valuesOf(d), true
	switch c.Kind {
	case api.LinLe:
		values, ok = bounded(c.A, c.X, c.C, values)
	case api.LinEq:
		values, ok = bounded(c.A, c.X, c.C, values)
		if ok {
			values, ok = bounded(minus(c.A), c.X, -c.C, values)
		}
	case api.LinNe:
		values, ok = differing(c, values)
	}
	if !ok {
		return nil, api.ErrFail
	}
	return formOf(values), api.OK
}

func minus(l []int64) []int64 {
	var turned []int64
	for _, n := range l {
		turned = append(turned, -n)
	}
	return turned
}

// bounded asks of each value of each variable, at each of its positions, whether it is lost.
func bounded(a []int64, x []int, n int64, values [][]int64) ([][]int64, bool) {
	m := int64(0)
	for i := range a {
		m += slices.Min([]int64{a[i] * slices.Min(values[x[i]]), a[i] * slices.Max(values[x[i]])})
	}
	if m > n {
		return nil, false
	}
	var left [][]int64
	for y, l := range values {
		left = append(left, nil)
		for _, v := range l {
			lost := false
			for i := range a {
				lost = lost || x[i] == y && a[i] > 0 && a[i]*(v-slices.Min(l)) > n-m
				lost = lost || x[i] == y && a[i] < 0 && a[i]*(v-slices.Max(l)) > n-m
			}
			if !lost {
				left[y] = append(left[y], v)
			}
		}
		if len(left[y]) == 0 {
			return nil, false
		}
	}
	return left, true
}

// differing tries each value of the only position that is open.
func differing(c api.Con, values [][]int64) ([][]int64, bool) {
	var open []int
	s := int64(0)
	for i, x := range c.X {
		if c.A[i] != 0 && len(values[x]) > 1 {
			open = append(open, i)
		} else if c.A[i] != 0 {
			s += c.A[i] * values[x][0]
		}
	}
	if len(open) == 0 {
		return values, s != c.C
	}
	if len(open) > 1 {
		return values, true
	}
	x := c.X[open[0]]
	var left []int64
	for _, v := range values[x] {
		if s+c.A[open[0]]*v != c.C {
			left = append(left, v)
		}
	}
	values[x] = left
	return values, len(left) > 0
}

func sameDomains(a, b []list) bool {
	return slices.EqualFunc(a, b, slices.Equal[list])
}

// told writes a constraint and domains down, not at any length.
func told(c api.Con, d []list) string {
	return fmt.Sprintf("%.600s", fmt.Sprintf("Kind %d, X %v, A %v, C %d, domains %v", c.Kind, c.X, c.A, c.C, d))
}

func expectNarrow(t *testing.T, c api.Con, d []list, want []list, wantErr api.Errno) {
	t.Helper()
	out, err := linear.Narrow(c, d)
	if err != wantErr || !sameDomains(out, want) {
		t.Errorf("Narrow(%s) = %.300s, %d", told(c, d), fmt.Sprint(out), err)
	}
}

// expectJudged holds Narrow against the judge.
func expectJudged(t *testing.T, c api.Con, d []list) {
	t.Helper()
	want, err := judged(c, d)
	expectNarrow(t, c, d, want, err)
}

func expectEnds(t *testing.T, c api.Con, d []list, lo, hi int64, wantOK bool) {
	t.Helper()
	if ends, ok := linear.Ends(c, d); ok != wantOK || ends.Lo != lo || ends.Hi != hi {
		t.Errorf("Ends(%s) = %v, %v", told(c, d), ends, ok)
	}
}

// eachRow goes through all rows of n numbers from lo to hi; whoever gets a row may keep it, or spoil it.
func eachRow(n int, lo, hi int64, do func(row []int64)) {
	row := slices.Repeat([]int64{lo}, n)
	for {
		do(slices.Clone(row))
		i := 0
		for i < n && row[i] == hi {
			row[i] = lo
			i++
		}
		if i == n {
			return
		}
		row[i]++
	}
}

// domainsFrom are all domains of n integers that follow one another, the first of which is from.
func domainsFrom(from int64, n int) []list {
	var all []list
	for bits := 1; bits < 1<<n; bits++ {
		var l []int64
		for i := range n {
			if bits>>i&1 == 1 {
				l = append(l, from+int64(i))
			}
		}
		all = append(all, formOf([][]int64{l})[0])
	}
	return all
}
