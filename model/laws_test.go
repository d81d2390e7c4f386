package model_test

import (
	"math/rand/v2"
	"slices"
	"testing"

	"touchstone/api"
	"touchstone/parse"
)

// maker makes items that mostly fit together: the names so far have the letters of the table.
type maker struct {
	r       *rand.Rand
	letters map[string]byte
}

// seldom is true once in so many times.
func (m *maker) seldom(times int) bool {
	return m.r.IntN(times) == 0
}

func (m *maker) oneOf(l ...int64) int64 {
	return l[m.r.IntN(len(l))]
}

func (m *maker) name() string {
	return string(rune('a' + m.r.IntN(20)))
}

// named is a name that has one of some letters, if there is one.
func (m *maker) named(letters string) (string, bool) {
	var names []string
	for name, letter := range m.letters {
		if slices.Contains([]byte(letters), letter) {
			names = append(names, name)
		}
	}
	if len(names) == 0 {
		return "", false
	}
	slices.Sort(names)
	return names[m.r.IntN(len(names))], true
}

// number is mostly small, so that fixed variables are asked for twice.
func (m *maker) number() int64 {
	if m.seldom(30) {
		return m.oneOf(most, -most, most+1, -most-1)
	}
	return m.oneOf(0, 1, 0, 1, 2, 3, -1)
}

// plain is an expression for one of i, x, q and b.
func (m *maker) plain(shape byte) parse.Expr {
	if m.seldom(150) {
		return parse.Expr{Kind: parse.Ref, S: m.name()}
	}
	if m.seldom(150) {
		shape = "ixqb"[m.r.IntN(4)]
	}
	letters := permitted[shape]
	if name, ok := m.named(letters[1:]); ok && !m.seldom(3) {
		return ref(name)
	}
	if letters[0] == 't' {
		return truth(int64(m.r.IntN(2)))
	}
	return num(m.number())
}

// plains are expressions, mostly so many.
func (m *maker) plains(shape byte, n int) []parse.Expr {
	if m.seldom(30) {
		n += m.r.IntN(3)
	}
	var l []parse.Expr
	for range n {
		l = append(l, m.plain(shape))
	}
	return l
}

// argument is an expression for one of the arguments of the table; lists are mostly of n elements.
func (m *maker) argument(arg byte, n int) parse.Expr {
	if m.seldom(100) {
		arg = "ixbIXB"[m.r.IntN(6)]
	}
	element, isList := elements[arg]
	if !isList {
		return m.plain(arg)
	}
	if name, ok := m.named(permitted[arg]); ok && m.seldom(4) {
		return ref(name)
	}
	return list(m.plains(element, n)...)
}

func (m *maker) domain() []api.Range {
	if m.seldom(2) {
		lo := m.number()
		return ranges(lo, lo+m.oneOf(0, 1, 5, 9))
	}
	var dom []api.Range
	for range 2 + m.r.IntN(5) {
		n := m.number() + m.oneOf(0, 0, 2, 5)
		dom = append(dom, ranges(n, n)...)
	}
	return dom
}

// item is any item but a Solve.
func (m *maker) item() parse.Item {
	x := parse.Item{Kind: int(m.oneOf(1, 2, 2, 3, 4, 5, 5, 5)), Bool: m.seldom(2), Name: m.name()}
	for m.letters[x.Name] != 0 && !m.seldom(40) {
		x.Name = m.name()
	}
	letters := "nq"
	switch x.Kind {
	case parse.Par:
		x.Vals = []parse.Expr{num(m.number())}
		if x.Bool {
			x.Vals = []parse.Expr{truth(int64(m.r.IntN(2)))}
		}
	case parse.Var:
		letters, x.Out = "xy", m.seldom(2)
		if !x.Bool {
			x.Dom = m.domain()
		}
		if m.seldom(3) {
			x.Vals = []parse.Expr{m.plain(pick("xb", x.Bool))}
		}
	case parse.ParArray, parse.VarArray:
		letters = "NQ"
		shapes := "iq"
		if x.Kind == parse.VarArray {
			letters, shapes, x.Out = "XY", "xb", m.seldom(2)
		}
		x.Size = int64(m.r.IntN(4))
		x.Vals = m.plains(pick(shapes, x.Bool), int(x.Size))
	case parse.Constraint:
		return m.constraint()
	}
	m.letters[x.Name] = pick(letters, x.Bool)
	return x
}

func (m *maker) constraint() parse.Item {
	all := rows()
	r := all[m.r.IntN(len(all))]
	x := parse.Item{Kind: parse.Constraint, Name: r.name}
	n := 1 + m.r.IntN(3)
	for _, arg := range []byte(r.args) {
		x.Vals = append(x.Vals, m.argument(arg, n))
	}
	return x
}

// items are some items and, nearly always, a Solve behind them.
func (m *maker) items() []parse.Item {
	var l []parse.Item
	for range m.r.IntN(14) {
		l = append(l, m.item())
	}
	solve := parse.Item{Kind: parse.Solve, Ask: m.r.IntN(3)}
	if name, ok := m.named("x"); ok && solve.Ask != api.Satisfy {
		solve.Name = name
	} else if solve.Ask != api.Satisfy {
		solve.Name = m.name()
	}
	if !m.seldom(30) {
		l = append(l, solve)
	}
	if m.seldom(50) {
		l = append(l, m.item())
	}
	return l
}

// P8.1, P8.3: many problems, always the same ones, held against the judge.
func TestManyProblems(t *testing.T) {
	counts := map[api.Errno]int{}
	r := rand.New(rand.NewPCG(8, 1))
	for range 30000 {
		m := maker{r, map[string]byte{}}
		counts[holdJudge(t, m.items())]++
	}
	// Each way to end must have been gone often enough to be worth the name.
	for _, err := range []api.Errno{api.OK, api.ErrArg, api.ErrName, api.ErrType, api.ErrForm, api.ErrNone, api.ErrTwice} {
		if counts[err] < 100 {
			t.Errorf("%d problems end with %d", counts[err], err)
		}
	}
}
