package elem

import (
	"touchstone/api"
	"touchstone/set"
)

// choices are the sets of the values that the result may have, by the value of the index that chooses
// them. An index counts from 1 on, so that the set at 0 is empty.
type choices [][]api.Range

func ofTable(a []int64) choices {
	l := make(choices, 1)
	for _, v := range a {
		l = append(l, []api.Range{{Lo: v, Hi: v}})
	}
	return l
}

// ofVariables are the domains, as they are handed in, of the variables between the index and the result.
func ofVariables(x []int, d [][]api.Range) choices {
	l := make(choices, 1)
	for _, choice := range x[1 : len(x)-1] {
		l = append(l, d[choice])
	}
	return l
}

// able returns the set of those values of index whose choices have a value in common with result.
func (l choices) able(index, result []api.Range) []api.Range {
	// What chooses nothing goes first, as an index may have far more values than there are choices.
	index = set.Cut(index, 1, int64(len(l)-1))
	var left []api.Range
	for at, choice := range l {
		k := int64(at)
		if set.Has(index, k) && len(set.Meet(choice, result)) > 0 {
			left = append(left, api.Range{Lo: k, Hi: k})
		}
	}
	return setOf(left)
}

// union returns the set of all values that the values of index choose.
func (l choices) union(index []api.Range) []api.Range {
	var all []api.Range
	for at, choice := range l {
		if set.Has(index, int64(at)) {
			all = append(all, choice...)
		}
	}
	return setOf(all)
}

// setOf returns the set of the values of l, all of which are values that a domain may have.
func setOf(l []api.Range) []api.Range {
	d, _ := set.Of(l)
	return d
}
