package arith_test

import (
	"fmt"
	"math"
	"slices"
	"testing"

	"touchstone/api"
	"touchstone/arith"
)

type list = []api.Range

const (
	least    = -1 << 63
	greatest = 1<<63 - 1
	most     = 1048576
)

// ranges is the list of the ranges that pairs of ends tell.
func ranges(ends ...int64) list {
	var l list
	for i := 0; i < len(ends); i += 2 {
		l = append(l, api.Range{Lo: ends[i], Hi: ends[i+1]})
	}
	return l
}

// one is the domain of a single value.
func one(v int64) list {
	return ranges(v, v)
}

// kinds are those that Narrow takes.
func kinds() []int {
	return []int{api.Times, api.Min, api.Max, api.Abs, api.Same}
}

// ofThree are those of them that have three variables.
func ofThree() []int {
	return kinds()[:3]
}

// ofTwo are those of them that have two variables.
func ofTwo() []int {
	return kinds()[3:]
}

// count is how many variables a constraint of a Kind has.
func count(kind int) int {
	if slices.Contains(ofTwo(), kind) {
		return 2
	}
	return 3
}

// con is a constraint on the first variables.
func con(kind int) api.Con {
	return on(kind, []int{0, 1, 2}[:count(kind)]...)
}

// on is a constraint on the variables x.
func on(kind int, x ...int) api.Con {
	return api.Con{Kind: kind, X: x}
}

func valuesOf(d []list) [][]int64 {
	var values [][]int64
	for _, domain := range d {
		var l []int64
		for _, r := range domain {
			for v := r.Lo; v <= r.Hi; v++ {
				l = append(l, v)
			}
		}
		values = append(values, l)
	}
	return values
}

// formOf is the only form of domains with these values, which are sorted.
func formOf(values [][]int64) []list {
	var d []list
	for _, l := range values {
		var domain list
		for i, v := range l {
			if i > 0 && v == l[i-1]+1 {
				domain[len(domain)-1].Hi = v
			} else {
				domain = append(domain, api.Range{Lo: v, Hi: v})
			}
		}
		d = append(d, domain)
	}
	return d
}

// A judge goes through the chapter's steps with all values of each variable. X, Y and Z are positions of x.
type judge struct {
	x      []int
	values [][]int64
}

const (
	X = iota
	Y
	Z
)

// empty is what a judge panics with as soon as a domain is empty.
type empty struct{}

func (j judge) lo(at int) int64 { return slices.Min(j.values[j.x[at]]) }
func (j judge) hi(at int) int64 { return slices.Max(j.values[j.x[at]]) }

func (j judge) keep(at int, is func(v int64) bool) {
	l := slices.DeleteFunc(j.values[j.x[at]], func(v int64) bool { return !is(v) })
	j.values[j.x[at]] = l
	if len(l) == 0 {
		panic(empty{})
	}
}

func (j judge) cut(at int, lo, hi int64) {
	j.keep(at, func(v int64) bool { return lo <= v && v <= hi })
}

func isNotZero(v int64) bool { return v != 0 }

func (j judge) times() {
	var products []int64
	for _, a := range []int64{j.lo(X), j.hi(X)} {
		products = append(products, a*j.lo(Y), a*j.hi(Y))
	}
	j.cut(Z, slices.Min(products), slices.Max(products))
	if !slices.Contains(j.values[j.x[Z]], 0) {
		j.keep(X, isNotZero)
		j.keep(Y, isNotZero)
	}
	j.divide(X, Y)
	j.divide(Y, X)
}

// divide cuts what is at one position to the quotients of z by what is at another one.
func (j judge) divide(at, by int) {
	if j.lo(by) <= 0 && j.hi(by) >= 0 {
		return
	}
	var up, down []float64
	for _, a := range []int64{j.lo(Z), j.hi(Z)} {
		for _, b := range []int64{j.lo(by), j.hi(by)} {
			up = append(up, math.Ceil(float64(a)/float64(b)))
			down = append(down, math.Floor(float64(a)/float64(b)))
		}
	}
	j.cut(at, int64(slices.Min(up)), int64(slices.Max(down)))
}

func (j judge) min() {
	j.cut(Z, min(j.lo(X), j.lo(Y)), min(j.hi(X), j.hi(Y)))
	j.cut(X, j.lo(Z), j.hi(X))
	j.cut(Y, j.lo(Z), j.hi(Y))
	if j.lo(X) > j.hi(Z) {
		j.cut(Y, j.lo(Y), j.hi(Z))
	}
	if j.lo(Y) > j.hi(Z) {
		j.cut(X, j.lo(X), j.hi(Z))
	}
}

func (j judge) max() {
	j.cut(Z, max(j.lo(X), j.lo(Y)), max(j.hi(X), j.hi(Y)))
	j.cut(X, j.lo(X), j.hi(Z))
	j.cut(Y, j.lo(Y), j.hi(Z))
	if j.hi(X) < j.lo(Z) {
		j.cut(Y, j.lo(Z), j.hi(Y))
	}
	if j.hi(Y) < j.lo(Z) {
		j.cut(X, j.lo(Z), j.hi(X))
	}
}

func (j judge) abs() {
	j.cut(Y, 0, max(j.hi(X), -1*j.lo(X)))
	if j.lo(X) > 0 {
		j.cut(Y, j.lo(X), j.hi(Y))
	}
	if j.hi(X) < 0 {
		j.cut(Y, -1*j.hi(X), j.hi(Y))
	}
	j.cut(X, -1*j.hi(Y), j.hi(Y))
	if n := j.lo(Y); n > 0 {
		j.keep(X, func(v int64) bool { return v <= -n || v >= n })
	}
}

func (j judge) same() {
	both := slices.Clone(j.values[j.x[Y]])
	j.keep(X, func(v int64) bool { return slices.Contains(both, v) })
	j.values[j.x[Y]] = slices.Clone(j.values[j.x[X]])
}

// judged is what Narrow is to answer for a constraint of its Kinds that fits d, told by the chapter's own words.
func judged(c api.Con, d []list) (out []list, err api.Errno) {
	j := judge{c.X, valuesOf(d)}
	defer func() {
		if r := recover(); r == any(empty{}) {
			out, err = nil, api.ErrFail
		} else if r != nil {
			panic(r)
		}
	}()
	switch c.Kind {
	case api.Times:
		j.times()
	case api.Min:
		j.min()
	case api.Max:
		j.max()
	case api.Abs:
		j.abs()
	case api.Same:
		j.same()
	}
	return formOf(j.values), api.OK
}

func sameDomains(a, b []list) bool {
	return slices.EqualFunc(a, b, slices.Equal[list])
}

// told writes a constraint and domains down, not at any length.
func told(c api.Con, d []list) string {
	return fmt.Sprintf("%.600s", fmt.Sprintf("Kind %d, X %v, A %v, C %d, domains %v", c.Kind, c.X, c.A, c.C, d))
}

func expectNarrow(t *testing.T, c api.Con, d []list, want []list, wantErr api.Errno) {
	t.Helper()
	out, err := arith.Narrow(c, d)
	if err != wantErr || !sameDomains(out, want) {
		t.Errorf("Narrow(%s) = %.300s, %d", told(c, d), fmt.Sprint(out), err)
	}
}

// expectJudged holds Narrow against the judge.
func expectJudged(t *testing.T, c api.Con, d []list) {
	t.Helper()
	want, err := judged(c, d)
	expectNarrow(t, c, d, want, err)
}

// A row is a call whose answer is written out; no want says that it fails.
type row struct {
	d, want []list
}

func expectRows(t *testing.T, c api.Con, rows []row) {
	t.Helper()
	for _, r := range rows {
		if r.want == nil {
			expectNarrow(t, c, r.d, nil, api.ErrFail)
		} else {
			expectNarrow(t, c, r.d, r.want, api.OK)
		}
	}
}

// domainsFrom are all domains of n integers that follow one another, the first of which is from.
func domainsFrom(from int64, n int) []list {
	var all []list
	for bits := 1; bits < 1<<n; bits++ {
		var l []int64
		for i := range n {
			if bits>>i&1 == 1 {
				l = append(l, from+int64(i))
			}
		}
		all = append(all, formOf([][]int64{l})[0])
	}
	return all
}

// rangesWithin are all domains of one range from lo to hi.
func rangesWithin(lo, hi int64) []list {
	var all []list
	for a := lo; a <= hi; a++ {
		for b := a; b <= hi; b++ {
			all = append(all, ranges(a, b))
		}
	}
	return all
}
