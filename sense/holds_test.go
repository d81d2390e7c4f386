package sense_test

import (
	"slices"
	"testing"

	"touchstone/api"
)

// P11.1: the chapter's examples.
func TestExamples(t *testing.T) {
	le := con(api.LinLe, 2, 3, 2, -1)
	expectHolds(t, le, []int64{2, 1}, true)
	expectHolds(t, le, []int64{2, 0}, false)
	expectHolds(t, con(api.Clause, 2, 0, 1, -1), []int64{0, 1}, false)
	tasks := con(api.Cumulative, 2, 1, 2, 2, 1, 1)
	expectHolds(t, tasks, []int64{0, 1}, false)
	expectHolds(t, tasks, []int64{0, 2}, true)
	table := con(api.Element, 2, 0, 5, 7)
	expectHolds(t, table, []int64{2, 7}, true)
	expectHolds(t, table, []int64{0, 5}, false)
}

// P11.1: sums one below, at and above C, with and without a flag.
func TestHoldsSums(t *testing.T) {
	for _, row := range []struct {
		kind        int
		flag        []int64
		below, at   bool
		above, none bool
	}{
		{api.LinEq, nil, false, true, false, false},
		{api.LinLe, nil, true, true, false, false},
		{api.LinNe, nil, true, false, true, true},
		{api.LinEqReif, []int64{1}, false, true, false, false},
		{api.LinEqReif, []int64{0}, true, false, true, true},
		{api.LinLeReif, []int64{1}, true, true, false, false},
		{api.LinLeReif, []int64{0}, false, false, true, true},
		{api.LinLeImp, []int64{1}, true, true, false, false},
		{api.LinLeImp, []int64{0}, true, true, true, true},
	} {
		for _, c := range []int64{-most + 1, -5, -1, 0, 1, 7, most - 1} {
			for step, want := range map[int64]bool{-1: row.below, 0: row.at, 1: row.above} {
				expectHolds(t, con(row.kind, 1+len(row.flag), c, 1), append([]int64{c + step}, row.flag...), want)
				expectHolds(t, con(row.kind, 1+len(row.flag), c, -1), append([]int64{-c - step}, row.flag...), want)
				expectHolds(t, con(row.kind, 3+len(row.flag), c, 1, 3, -1), append([]int64{c, 2, 6 - step}, row.flag...), want)
			}
		}
		// The sum of no numbers is 0, which is above -1.
		expectHolds(t, con(row.kind, len(row.flag), 0), row.flag, row.at)
		expectHolds(t, con(row.kind, len(row.flag), -1), row.flag, row.none)
		expectHolds(t, con(row.kind, len(row.flag), 1), row.flag, row.below)
	}
}

// P11.1: all small sums of two numbers, with each flag and with numbers that are none.
func TestHoldsSmallSums(t *testing.T) {
	eachRow(2, -2, 3, func(a []int64) {
		for c := int64(-4); c <= 4; c++ {
			eachRow(3, -2, 3, func(v []int64) {
				for kind := api.LinEq; kind <= api.LinNe; kind++ {
					expectJudged(t, con(kind, 2, c, a...), v[:2])
				}
				for kind := api.LinEqReif; kind <= api.LinLeImp; kind++ {
					expectJudged(t, con(kind, 3, c, a...), v)
				}
			})
		}
	})
}

// P11.1: the greatest sums that there are, and those that would be C in fewer bits.
func TestHoldsGreatSums(t *testing.T) {
	for _, sign := range []int64{1, -1} {
		n, v := same(31, most), append(same(31, sign*most), 0)
		for _, c := range []int64{-most, -1, 0, 1, most} {
			expectHolds(t, con(api.LinEq, 31, c, n...), v, false)
			expectHolds(t, con(api.LinLe, 31, c, n...), v, sign < 0)
			expectHolds(t, con(api.LinNe, 31, c, n...), v, true)
			for flag := range int64(2) {
				v[31] = flag
				expectHolds(t, con(api.LinEqReif, 32, c, n...), v, flag == 0)
				expectHolds(t, con(api.LinLeReif, 32, c, n...), v, (flag == 1) == (sign < 0))
				expectHolds(t, con(api.LinLeImp, 32, c, n...), v, flag == 0 || sign < 0)
			}
		}
	}
	expectHolds(t, con(api.LinEq, 1, 0, 65536), []int64{65536}, false)
	expectHolds(t, con(api.LinLe, 1, 0, 46341), []int64{46341}, false)
	expectHolds(t, con(api.LinEq, 32, 0, append(same(16, most), same(16, -most)...)...), same(32, most), true)
	expectHolds(t, con(api.LinEq, 32, 1, append(same(16, most), same(16, -most)...)...), same(32, most), false)
}

// P11.1: Times, Min, Max, Abs, Same and Xor, for all small values.
func TestHoldsFewVariables(t *testing.T) {
	for _, n := range []int{2, 3} {
		eachRow(n, -7, 7, func(v []int64) {
			for _, kind := range []int{api.Times, api.Min, api.Max, api.Abs, api.Same, api.Xor} {
				expectJudged(t, con(kind, n, 0), v)
			}
		})
	}
}

// P11.1: the same at the greatest values.
func TestHoldsGreatValues(t *testing.T) {
	for _, row := range []struct {
		kind int
		v    []int64
		want bool
	}{
		{api.Times, []int64{1024, 1024, most}, true},
		{api.Times, []int64{-1024, 1024, -most}, true},
		{api.Times, []int64{-1024, -1024, most}, true},
		{api.Times, []int64{-1024, -1024, -most}, false},
		{api.Times, []int64{1024, 1025, most}, false},
		{api.Times, []int64{most, most, 0}, false},
		{api.Times, []int64{most, -most, 0}, false},
		{api.Times, []int64{65536, 65536, 0}, false},
		{api.Times, []int64{0, most, 0}, true},
		{api.Times, []int64{most, 1, most}, true},
		{api.Min, []int64{-most, most, -most}, true},
		{api.Min, []int64{-most, most, most}, false},
		{api.Min, []int64{most, most, most}, true},
		{api.Max, []int64{-most, most, most}, true},
		{api.Max, []int64{-most, most, -most}, false},
		{api.Max, []int64{-most, -most, -most}, true},
		{api.Abs, []int64{-most, most}, true},
		{api.Abs, []int64{most, most}, true},
		{api.Abs, []int64{-most, -most}, false},
		{api.Abs, []int64{0, 0}, true},
		{api.Same, []int64{most, most}, true},
		{api.Same, []int64{-most, most}, false},
	} {
		expectHolds(t, con(row.kind, len(row.v), 0), row.v, row.want)
	}
}

// P11.1: all Clauses of up to four variables, for booleans and for numbers that are none.
func TestHoldsClauses(t *testing.T) {
	for n := range 5 {
		eachOf(n, []int64{1, -1}, func(signs []int64) {
			eachRow(n, -1, 2, func(v []int64) {
				expectJudged(t, con(api.Clause, n, 0, signs...), v)
			})
		})
	}
	// The same variable, once with each sign, is always one of them.
	for v := range int64(2) {
		expectHolds(t, api.Con{Kind: api.Clause, X: []int{0, 0}, A: []int64{1, -1}}, []int64{v}, true)
		expectHolds(t, api.Con{Kind: api.Clause, X: []int{0}, A: []int64{1}}, []int64{v}, v == 1)
		expectHolds(t, api.Con{Kind: api.Clause, X: []int{0}, A: []int64{-1}}, []int64{v}, v == 0)
	}
	expectHolds(t, api.Con{Kind: api.Clause}, nil, false)
}

// P11.1: one literal among as many as there may be.
func TestHoldsLongClauses(t *testing.T) {
	for _, sign := range []int64{1, -1} {
		c := con(api.Clause, 32, 0, same(32, sign)...)
		v := same(32, (1-sign)/2)
		expectHolds(t, c, v, false)
		for i := range v {
			v[i] = 1 - v[i]
			expectHolds(t, c, v, true)
			v[i] = 1 - v[i]
		}
	}
}

// P11.1: And and Or of up to five variables, the last of which is the flag.
func TestHoldsAndOr(t *testing.T) {
	for n := range 6 {
		eachRow(n, -1, 2, func(v []int64) {
			expectJudged(t, con(api.And, n, 0), v)
			expectJudged(t, con(api.Or, n, 0), v)
		})
	}
	// A flag alone: all of none are 1, and none of them is.
	for v := range int64(2) {
		expectHolds(t, con(api.And, 1, 0), []int64{v}, v == 1)
		expectHolds(t, con(api.Or, 1, 0), []int64{v}, v == 0)
	}
	for flag := range int64(2) {
		for odd := range 31 {
			v := append(same(31, 1), flag)
			expectHolds(t, con(api.And, 32, 0), v, flag == 1)
			v[odd] = 0
			expectHolds(t, con(api.And, 32, 0), v, flag == 0)
			v = append(same(31, 0), flag)
			expectHolds(t, con(api.Or, 32, 0), v, flag == 0)
			v[odd] = 1
			expectHolds(t, con(api.Or, 32, 0), v, flag == 1)
		}
	}
}

// P11.1: Element, with tables of up to four numbers, and indices before and behind them.
func TestHoldsElement(t *testing.T) {
	for n := 1; n <= 4; n++ {
		eachOf(n, []int64{-3, 0, 2}, func(table []int64) {
			eachRow(2, -4, 6, func(v []int64) {
				expectJudged(t, con(api.Element, 2, 0, table...), v)
			})
		})
	}
	var table []int64
	for i := range int64(64) {
		table = append(table, 3*i)
	}
	for _, k := range []int64{-most, -64, -1, 0, 1, 2, 63, 64, 65, 66, 256 + 1, most} {
		for _, shift := range []int64{-3, 0, 3} {
			expectHolds(t, con(api.Element, 2, 0, table...), []int64{k, 3*(k-1) + shift}, shift == 0 && k >= 1 && k <= 64)
		}
	}
	// The index may be the result too.
	for v := int64(0); v <= 4; v++ {
		expectHolds(t, api.Con{Kind: api.Element, X: []int{0, 0}, A: []int64{3, 2, 1}}, []int64{v}, v == 2)
	}
}

// P11.1: VarElement, of up to six variables, and indices before and behind the choices.
func TestHoldsVarElement(t *testing.T) {
	for n := 3; n <= 6; n++ {
		eachRow(n, -1, 5, func(v []int64) {
			expectJudged(t, con(api.VarElement, n, 0), v)
		})
	}
	for _, k := range []int64{-most, -1, 0, 1, 2, 29, 30, 31, 32, most} {
		v := same(32, 7)
		v[0] = k
		expectHolds(t, con(api.VarElement, 32, 0), v, k >= 1 && k <= 30)
		if k >= 1 && k <= 30 {
			v[k] = 8
			expectHolds(t, con(api.VarElement, 32, 0), v, false)
			v[31] = 8
			expectHolds(t, con(api.VarElement, 32, 0), v, true)
		}
	}
}

// P11.1: AllDiff of up to five variables, and of as many as there may be.
func TestHoldsAllDiff(t *testing.T) {
	for n := range 6 {
		eachRow(n, -2, 2, func(v []int64) {
			expectJudged(t, con(api.AllDiff, n, 0), v)
		})
	}
	var v []int64
	for i := range int64(32) {
		v = append(v, most-3*i)
	}
	expectHolds(t, con(api.AllDiff, 32, 0), v, true)
	for i := range v {
		for j := range i {
			equal := slices.Clone(v)
			equal[i] = v[j]
			expectHolds(t, con(api.AllDiff, 32, 0), equal, false)
		}
	}
	// A variable that occurs twice is not different from itself.
	expectHolds(t, api.Con{Kind: api.AllDiff, X: []int{0, 1, 0}}, []int64{1, 2}, false)
	expectHolds(t, api.Con{Kind: api.AllDiff, X: []int{1}}, []int64{1, 1}, true)
}

// P11.1: all Cumulatives of two small tasks, and of three smaller ones.
func TestHoldsSmallTasks(t *testing.T) {
	for n, limit := range map[int]int64{0: 3, 1: 3, 2: 3, 3: 2} {
		eachRow(2*n, 0, limit, func(a []int64) {
			for c := range int64(5) {
				eachRow(n, -1, limit, func(v []int64) {
					expectJudged(t, con(api.Cumulative, n, c, a...), v)
				})
			}
		})
	}
}

// P11.1: tasks that touch and overlap, that last or need 0, at C and one above it.
func TestHoldsTasks(t *testing.T) {
	for _, row := range []struct {
		a    []int64
		c    int64
		v    []int64
		want bool
	}{
		{[]int64{3, 3, 1, 1}, 1, []int64{0, 3}, true},
		{[]int64{3, 3, 1, 1}, 1, []int64{3, 0}, true},
		{[]int64{3, 3, 1, 1}, 1, []int64{0, 2}, false},
		{[]int64{3, 3, 1, 1}, 1, []int64{2, 0}, false},
		{[]int64{3, 3, 1, 1}, 1, []int64{-3, 0}, true},
		{[]int64{3, 3, 1, 1}, 1, []int64{-2, 0}, false},
		{[]int64{3, 3, 1, 1}, 2, []int64{0, 0}, true},
		{[]int64{9, 1, 2, 3}, 5, []int64{0, 4}, true},
		{[]int64{9, 1, 2, 3}, 4, []int64{0, 4}, false},
		{[]int64{9, 1, 2, 3}, 4, []int64{0, 9}, true},
		{[]int64{9, 1, 2, 3}, 4, []int64{0, -1}, true},
		{[]int64{0, 5, 9, 1}, 1, []int64{2, 0}, true},
		{[]int64{5, 5, 0, 1}, 1, []int64{0, 0}, true},
		{[]int64{5, 5, 0, 1}, 0, []int64{0, 0}, false},
		{[]int64{5, 0, 0, 1}, 0, []int64{0, 0}, true},
		{[]int64{0, 2}, 1, []int64{0}, true},
		{[]int64{1, 2}, 1, []int64{0}, false},
		{[]int64{1, 2}, 2, []int64{0}, true},
		// Three tasks that overlap in pairs only, and in all.
		{[]int64{4, 4, 4, 1, 1, 1}, 2, []int64{0, 3, 4}, true},
		{[]int64{4, 4, 4, 1, 1, 1}, 2, []int64{0, 3, 3}, false},
		{[]int64{4, 4, 4, 1, 1, 1}, 1, []int64{0, 3, 7}, false},
		// Times beyond the greatest value, which no variable can have.
		{[]int64{5, 5, 1, 1}, 1, []int64{most, most - 4}, false},
		{[]int64{5, 5, 1, 1}, 1, []int64{most, most - 5}, true},
		{[]int64{most, most, most, most}, most, []int64{-most, 0}, true},
		{[]int64{most, most, most, most}, most, []int64{-most, -1}, false},
		{[]int64{most, most, most, 1}, most, []int64{most, most}, false},
		{[]int64{most, most, most - 1, 1}, most, []int64{most, most}, true},
	} {
		expectHolds(t, con(api.Cumulative, len(row.v), row.c, row.a...), row.v, row.want)
	}
	// A variable that occurs twice stands for two tasks.
	twice := api.Con{Kind: api.Cumulative, X: []int{0, 0}, A: []int64{1, 1, 1, 2}, C: 3}
	expectHolds(t, twice, []int64{4}, true)
	twice.C = 2
	expectHolds(t, twice, []int64{4}, false)
}

// P11.1: as many tasks as there may be, at C and one above it.
func TestHoldsManyTasks(t *testing.T) {
	short, long := append(same(32, 1), same(32, 1)...), append(same(32, 50), same(32, most)...)
	for c := int64(30); c <= 33; c++ {
		expectHolds(t, con(api.Cumulative, 32, c, short...), same(32, 5), c >= 32)
	}
	v := make([]int64, 32)
	for i := range v {
		v[i] = 50 * int64(len(v)-i)
	}
	expectHolds(t, con(api.Cumulative, 32, most, long...), v, true)
	expectHolds(t, con(api.Cumulative, 32, most-1, long...), v, false)
	for i := range v {
		v[i]++
		expectHolds(t, con(api.Cumulative, 32, most, long...), v, i == 0)
		v[i]--
	}
}
