package elem_test

import (
	"fmt"
	"slices"
	"testing"

	"touchstone/api"
	"touchstone/elem"
)

type list = []api.Range

const (
	least    = -1 << 63
	greatest = 1<<63 - 1
	most     = 1048576
)

// ranges is the list of the ranges that pairs of ends tell.
func ranges(ends ...int64) list {
	var l list
	for i := 0; i < len(ends); i += 2 {
		l = append(l, api.Range{Lo: ends[i], Hi: ends[i+1]})
	}
	return l
}

// one is the domain of a single value.
func one(v int64) list {
	return ranges(v, v)
}

// kinds are those that Narrow takes.
func kinds() []int {
	return []int{api.Element, api.VarElement}
}

// table is an Element of these numbers, of the first variable and the second one.
func table(a ...int64) api.Con {
	return tableOn(0, 1, a...)
}

func tableOn(index, result int, a ...int64) api.Con {
	return api.Con{Kind: api.Element, X: []int{index, result}, A: a}
}

// among is a VarElement on the variables x.
func among(x ...int) api.Con {
	return api.Con{Kind: api.VarElement, X: x}
}

// con is a constraint of a Kind on the first variables, with two choices.
func con(kind int) api.Con {
	if kind == api.Element {
		return table(1, 2)
	}
	return among(0, 1, 2, 3)
}

// places are the first n variables.
func places(n int) []int {
	var x []int
	for i := range n {
		x = append(x, i)
	}
	return x
}

func valuesOf(d []list) [][]int64 {
	var values [][]int64
	for _, domain := range d {
		var l []int64
		for _, r := range domain {
			for v := r.Lo; v <= r.Hi; v++ {
				l = append(l, v)
			}
		}
		values = append(values, l)
	}
	return values
}

// formOf is the only form of domains with these values, which are sorted.
func formOf(values [][]int64) []list {
	var d []list
	for _, l := range values {
		var domain list
		for i, v := range l {
			if i > 0 && v == l[i-1]+1 {
				domain[len(domain)-1].Hi = v
			} else {
				domain = append(domain, one(v)...)
			}
		}
		d = append(d, domain)
	}
	return d
}

// A judge goes through the chapter's steps with all values of each variable. The choices are known by their k.
type judge struct {
	x       []int
	values  [][]int64
	choices map[int64][]int64
}

func judgeOf(c api.Con, d []list) judge {
	j := judge{c.X, valuesOf(d), map[int64][]int64{}}
	for i, v := range c.A {
		j.choices[int64(i)+1] = []int64{v}
	}
	if c.Kind == api.VarElement {
		for k := 1; k <= len(c.X)-2; k++ {
			j.choices[int64(k)] = slices.Clone(j.values[c.X[k]])
		}
	}
	return j
}

func (j judge) index() int  { return j.x[0] }
func (j judge) result() int { return j.x[len(j.x)-1] }

// empty is what a judge panics with as soon as a domain is empty.
type empty struct{}

// keep leaves those values of a variable that are so.
func (j judge) keep(x int, is func(v int64) bool) {
	var left []int64
	for _, v := range j.values[x] {
		if is(v) {
			left = append(left, v)
		}
	}
	j.values[x] = left
	if left == nil {
		panic(empty{})
	}
}

func (j judge) chooseIndex() {
	result := j.values[j.result()]
	j.keep(j.index(), func(k int64) bool {
		choice, ok := j.choices[k]
		return ok && slices.ContainsFunc(choice, func(v int64) bool { return slices.Contains(result, v) })
	})
}

func (j judge) chooseResult() {
	index := j.values[j.index()]
	j.keep(j.result(), func(v int64) bool {
		return slices.ContainsFunc(index, func(k int64) bool { return slices.Contains(j.choices[k], v) })
	})
}

func (j judge) equate() {
	if len(j.values[j.index()]) != 1 {
		return
	}
	chosen := j.x[j.values[j.index()][0]]
	result := j.values[j.result()]
	j.keep(chosen, func(v int64) bool { return slices.Contains(result, v) })
	j.values[j.result()] = slices.Clone(j.values[chosen])
}

// judged is what Narrow is to answer for a constraint of its Kinds that fits d, told by the chapter's own words.
func judged(c api.Con, d []list) (out []list, err api.Errno) {
	j := judgeOf(c, d)
	defer func() {
		if r := recover(); r == any(empty{}) {
			out, err = nil, api.ErrFail
		} else if r != nil {
			panic(r)
		}
	}()
	j.chooseIndex()
	j.chooseResult()
	if c.Kind == api.VarElement {
		j.equate()
	}
	return formOf(j.values), api.OK
}

func sameDomains(a, b []list) bool {
	return slices.EqualFunc(a, b, slices.Equal[list])
}

// told writes a constraint and domains down, not at any length.
func told(c api.Con, d []list) string {
	return fmt.Sprintf("%.600s", fmt.Sprintf("Kind %d, X %v, A %v, C %d, domains %v", c.Kind, c.X, c.A, c.C, d))
}

func expectNarrow(t *testing.T, c api.Con, d []list, want []list, wantErr api.Errno) {
	t.Helper()
	out, err := elem.Narrow(c, d)
	if err != wantErr || !sameDomains(out, want) {
		t.Errorf("Narrow(%s) = %.300s, %d", told(c, d), fmt.Sprint(out), err)
	}
}

// expectJudged holds Narrow against the judge.
func expectJudged(t *testing.T, c api.Con, d []list) {
	t.Helper()
	want, err := judged(c, d)
	expectNarrow(t, c, d, want, err)
}

// A row is a call whose answer is written out; no want says that it fails.
type row struct {
	d, want []list
}

func expectRows(t *testing.T, c api.Con, rows []row) {
	t.Helper()
	for _, r := range rows {
		if r.want == nil {
			expectNarrow(t, c, r.d, nil, api.ErrFail)
		} else {
			expectNarrow(t, c, r.d, r.want, api.OK)
		}
	}
}

// domainsFrom are all domains of n integers that follow one another, the first of which is from.
func domainsFrom(from int64, n int) []list {
	var all []list
	for bits := 1; bits < 1<<n; bits++ {
		var l []int64
		for i := range n {
			if bits>>i&1 == 1 {
				l = append(l, from+int64(i))
			}
		}
		all = append(all, formOf([][]int64{l})[0])
	}
	return all
}

// eachChoice goes through all lists of n of these.
func eachChoice[E any](n int, of []E, do func(l []E)) {
	if n == 0 {
		do(nil)
		return
	}
	eachChoice(n-1, of, func(l []E) {
		for _, e := range of {
			do(append(slices.Clone(l), e))
		}
	})
}
