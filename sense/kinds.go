package sense

import (
	"slices"

	"touchstone/api"
)

// holds reports whether the constraint, which is well-formed for its values, holds for them.
func (p placed) holds() bool {
	switch p.Kind {
	case api.LinEq:
		return p.sum() == p.C
	case api.LinLe:
		return p.sum() <= p.C
	case api.LinNe:
		return p.sum() != p.C
	case api.LinEqReif:
		return p.flag() == (p.sum() == p.C)
	case api.LinLeReif:
		return p.flag() == (p.sum() <= p.C)
	case api.LinLeImp:
		return !p.flag() || p.sum() <= p.C
	case api.Times:
		return p.v[0]*p.v[1] == p.v[2]
	case api.Min:
		return min(p.v[0], p.v[1]) == p.v[2]
	case api.Max:
		return max(p.v[0], p.v[1]) == p.v[2]
	case api.Abs:
		return max(p.v[0], -p.v[0]) == p.v[1]
	case api.Same:
		return p.v[0] == p.v[1]
	case api.Clause:
		return p.someLiteral()
	case api.And:
		return p.flag() == !slices.Contains(p.others(), 0)
	case api.Or:
		return p.flag() == slices.Contains(p.others(), 1)
	case api.Xor:
		return p.flag() == (p.v[0] != p.v[1])
	case api.Element:
		return p.chosenFrom(p.A)
	case api.VarElement:
		return p.chosenFrom(p.others()[1:])
	case api.AllDiff:
		return p.allDiffer()
	case api.Cumulative:
		return p.neverAbove()
	}
	return false
}

func (p placed) hasSum() bool {
	return p.Kind >= api.LinEq && p.Kind <= api.LinLeImp
}

// sum goes through the numbers, not the values: the flag of a Kind that has one stands behind them.
func (p placed) sum() int64 {
	sum := int64(0)
	for i, n := range p.A {
		sum += n * p.v[i]
	}
	return sum
}

func (p placed) last() int64 {
	return p.v[len(p.v)-1]
}

func (p placed) flag() bool {
	return p.last() == 1
}

// others are the values without the last one.
func (p placed) others() []int64 {
	return p.v[:len(p.v)-1]
}

// someLiteral reports whether some value is the one that its sign asks for.
func (p placed) someLiteral() bool {
	for i, sign := range p.A {
		if (p.v[i] == 1) == (sign == 1) {
			return true
		}
	}
	return false
}

// chosenFrom reports whether the first value, counted from 1 on, is the place in l of the last one.
func (p placed) chosenFrom(l []int64) bool {
	k := p.v[0]
	return k >= 1 && k <= int64(len(l)) && l[k-1] == p.last()
}

func (p placed) allDiffer() bool {
	for i, v := range p.v {
		if slices.Contains(p.v[:i], v) {
			return false
		}
	}
	return true
}

// neverAbove asks only for the times at which a task starts, as the load grows at no other time.
func (p placed) neverAbove() bool {
	for _, t := range p.v {
		if p.load(t) > p.C {
			return false
		}
	}
	return true
}

// load is what the tasks that run at the time t need together.
func (p placed) load(t int64) int64 {
	load := int64(0)
	for i, start := range p.v {
		if start <= t && t < start+p.A[i] {
			load += p.A[len(p.v)+i]
		}
	}
	return load
}
