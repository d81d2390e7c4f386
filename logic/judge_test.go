package logic_test

import (
	"fmt"
	"slices"
	"strings"
	"testing"

	"touchstone/api"
	"touchstone/logic"
)

type list = []api.Range

const (
	least    = -1 << 63
	greatest = 1<<63 - 1
	most     = 1048576
)

// ranges is the list of the ranges that pairs of ends tell.
func ranges(ends ...int64) list {
	var l list
	for i := 0; i < len(ends); i += 2 {
		l = append(l, api.Range{Lo: ends[i], Hi: ends[i+1]})
	}
	return l
}

// kinds are those that Narrow takes.
func kinds() []int {
	return []int{api.Clause, api.And, api.Or, api.Xor}
}

// doms are the domains that a text tells: a variable is 0, 1 or ? (open), or w, which is no boolean one.
func doms(states string) []list {
	var d []list
	for _, s := range states {
		switch s {
		case '?':
			d = append(d, ranges(0, 1))
		case 'w':
			d = append(d, ranges(-20, -8, -6, 20))
		default:
			d = append(d, ranges(int64(s-'0'), int64(s-'0')))
		}
	}
	return d
}

// places are the first n variables.
func places(n int) []int {
	var x []int
	for i := range n {
		x = append(x, i)
	}
	return x
}

// on is a constraint on the variables x. Of a Clause, signs are the numbers: + is 1, - is -1.
func on(kind int, signs string, x ...int) api.Con {
	c := api.Con{Kind: kind, X: x}
	for _, s := range signs {
		c.A = append(c.A, map[rune]int64{'+': 1, '-': -1}[s])
	}
	return c
}

// A judge goes by the chapter's words over a text that tells the state of each variable.
type judge struct {
	x    []int
	vars []byte
}

// failure is what a judge panics with as soon as something fails.
type failure struct{}

// text tells the states at the positions.
func (j judge) text() string {
	var text []byte
	for _, x := range j.x {
		text = append(text, j.vars[x])
	}
	return string(text)
}

func (j judge) set(at int, v string) {
	s := &j.vars[j.x[at]]
	if *s != '?' && *s != v[0] {
		panic(failure{})
	}
	*s = v[0]
}

func (j judge) clause(a []int64) {
	truths := ""
	for i, s := range j.text() {
		switch {
		case s == '?':
			truths += "?"
		case s == '1' && a[i] == 1, s == '0' && a[i] == -1:
			truths += "t"
		default:
			truths += "f"
		}
	}
	falses := strings.Count(truths, "f")
	switch {
	case strings.Contains(truths, "t"):
	case falses == len(truths):
		panic(failure{})
	case falses == len(truths)-1:
		at := strings.Index(truths, "?")
		j.set(at, map[int64]string{1: "1", -1: "0"}[a[at]])
	}
}

// and is Or, too, with zero and one exchanged.
func (j judge) and(zero, one string) {
	flag := len(j.x) - 1
	rest := func() string { return j.text()[:flag] }
	if strings.Contains(rest(), zero) {
		j.set(flag, zero)
	}
	if strings.Count(rest(), one) == flag {
		j.set(flag, one)
	}
	switch j.text()[flag:] {
	case one:
		for at := range flag {
			j.set(at, one)
		}
	case zero:
		ones := strings.Count(rest(), one)
		if ones == flag {
			panic(failure{})
		}
		if ones == flag-1 && strings.Contains(rest(), "?") {
			j.set(strings.Index(rest(), "?"), zero)
		}
	}
}

func (j judge) xor() {
	holding := []string{"000", "011", "101", "110"}
	text := j.text()
	switch strings.Count(text, "?") {
	case 0:
		if !slices.Contains(holding, text) {
			panic(failure{})
		}
	case 1:
		for _, v := range []string{"0", "1"} {
			if slices.Contains(holding, strings.Replace(text, "?", v, 1)) {
				j.set(strings.Index(text, "?"), v)
			}
		}
	}
}

// judged is what Narrow is to leave of these states by a constraint of its Kinds that fits; false if it is to fail.
func judged(c api.Con, states string) (left string, ok bool) {
	j := judge{c.X, []byte(states)}
	defer func() {
		if r := recover(); r == any(failure{}) {
			left, ok = "", false
		} else if r != nil {
			panic(r)
		}
	}()
	switch c.Kind {
	case api.Clause:
		j.clause(c.A)
	case api.And:
		j.and("0", "1")
	case api.Or:
		j.and("1", "0")
	case api.Xor:
		j.xor()
	}
	return string(j.vars), true
}

func sameDomains(a, b []list) bool {
	return slices.EqualFunc(a, b, slices.Equal[list])
}

// told writes a constraint and domains down, not at any length.
func told(c api.Con, d []list) string {
	return fmt.Sprintf("%.600s", fmt.Sprintf("Kind %d, X %v, A %v, C %d, domains %v", c.Kind, c.X, c.A, c.C, d))
}

func expectNarrow(t *testing.T, c api.Con, d []list, want []list, wantErr api.Errno) {
	t.Helper()
	out, err := logic.Narrow(c, d)
	if err != wantErr || !sameDomains(out, want) {
		t.Errorf("Narrow(%s) = %.300s, %d", told(c, d), fmt.Sprint(out), err)
	}
}

// expectLeft expects that these states are left; none, that it fails.
func expectLeft(t *testing.T, c api.Con, states, want string) {
	t.Helper()
	if want == "" {
		expectNarrow(t, c, doms(states), nil, api.ErrFail)
	} else {
		expectNarrow(t, c, doms(states), doms(want), api.OK)
	}
}

// expectJudged holds Narrow against the judge.
func expectJudged(t *testing.T, c api.Con, states string) {
	t.Helper()
	want, ok := judged(c, states)
	if ok {
		expectNarrow(t, c, doms(states), doms(want), api.OK)
	} else {
		expectNarrow(t, c, doms(states), nil, api.ErrFail)
	}
}

// A row is the states of the first variables, and what is left of them: nothing, if it fails.
type row struct {
	states, want string
}

// expectRows expects them of a constraint on these variables, in their order.
func expectRows(t *testing.T, kind int, signs string, rows []row) {
	t.Helper()
	for _, r := range rows {
		expectLeft(t, on(kind, signs, places(len(r.states))...), r.states, r.want)
	}
}

// eachText goes through all texts of n of these letters.
func eachText(n int, letters string, do func(text string)) {
	if n == 0 {
		do("")
		return
	}
	eachText(n-1, letters, func(text string) {
		for _, l := range letters {
			do(text + string(l))
		}
	})
}

// eachOn goes through all constraints of Narrow's Kinds on the variables x, with all signs.
func eachOn(x []int, do func(c api.Con)) {
	eachText(len(x), "+-", func(signs string) { do(on(api.Clause, signs, x...)) })
	if len(x) > 0 {
		do(on(api.And, "", x...))
		do(on(api.Or, "", x...))
	}
	if len(x) == 3 {
		do(on(api.Xor, "", x...))
	}
}

// eachX goes through all lists of up to most of n variables, each of which may stand at several positions.
func eachX(n, most int, do func(x []int)) {
	for count := range most + 1 {
		eachText(count, "012345678"[:n], func(text string) {
			var x []int
			for _, digit := range text {
				x = append(x, int(digit-'0'))
			}
			do(x)
		})
	}
}
