package elem_test

import (
	"slices"
	"testing"

	"touchstone/api"
)

// P16.1: the chapter's examples.
func TestExamples(t *testing.T) {
	expectRows(t, table(5, 7, 5), []row{
		{[]list{ranges(0, 9), ranges(5, 6)}, []list{ranges(1, 1, 3, 3), one(5)}},
	})
	expectRows(t, among(0, 1, 2, 3), []row{
		{[]list{ranges(1, 2), ranges(1, 2), ranges(4, 5), ranges(2, 4)}, []list{ranges(1, 2), ranges(1, 2), ranges(4, 5), ranges(2, 2, 4, 4)}},
		{[]list{one(2), ranges(1, 2), ranges(4, 5), ranges(2, 4)}, []list{one(2), ranges(1, 2), one(4), one(4)}},
	})
}

// P16.1: all small tables and domains.
func TestSmallTables(t *testing.T) {
	indices, results := domainsFrom(0, 5), domainsFrom(-1, 5)
	for n := range 3 {
		eachChoice(n+1, []int64{-1, 0, 1, 2, 4}, func(a []int64) {
			for _, index := range indices {
				for _, result := range results {
					expectJudged(t, table(a...), []list{index, result})
				}
			}
		})
	}
}

// P16.1: the index of a table is its result, too.
func TestSmallTablesOfOne(t *testing.T) {
	for n := range 4 {
		eachChoice(n+1, []int64{0, 1, 2, 3, 4, 5}, func(a []int64) {
			for _, domain := range domainsFrom(0, 6) {
				expectJudged(t, tableOn(0, 0, a...), []list{domain})
			}
		})
	}
}

// P16.1: all small domains of distinct variables.
func TestSmallVariables(t *testing.T) {
	for _, index := range domainsFrom(0, 4) {
		eachChoice(2, domainsFrom(-1, 4), func(d []list) {
			expectJudged(t, among(0, 1, 2), append([]list{index}, d...))
		})
		eachChoice(3, domainsFrom(0, 3), func(d []list) {
			expectJudged(t, among(0, 1, 2, 3), append([]list{index}, d...))
		})
		eachChoice(4, domainsFrom(0, 2), func(d []list) {
			expectJudged(t, among(0, 1, 2, 3, 4), append([]list{index}, d...))
		})
	}
}

// P16.1: all lists of up to five positions of up to three variables, each of which may stand at several of them.
func TestSharedVariables(t *testing.T) {
	for n := 3; n <= 5; n++ {
		eachChoice(n, []int{0, 1}, func(x []int) {
			eachChoice(2, domainsFrom(0, 4), func(d []list) { expectJudged(t, among(x...), d) })
		})
		eachChoice(n, []int{0, 1, 2}, func(x []int) {
			eachChoice(3, domainsFrom(1, 3), func(d []list) { expectJudged(t, among(x...), d) })
		})
	}
}

// P16.1: the index loses values that choose nothing, wherever they stand, and those whose choice the result doesn't have.
func TestIndex(t *testing.T) {
	wide := ranges(-99, 99)
	expectRows(t, table(5, 7, 5), []row{
		{[]list{wide, wide}, []list{ranges(1, 3), ranges(5, 5, 7, 7)}},
		{[]list{wide, ranges(-99, 5)}, []list{ranges(1, 1, 3, 3), one(5)}},
		{[]list{wide, ranges(6, 99)}, []list{one(2), one(7)}},
		{[]list{ranges(-3, 0, 2, 2, 4, 9), wide}, []list{one(2), one(7)}},
		{[]list{ranges(-3, 1, 3, 9), wide}, []list{ranges(1, 1, 3, 3), one(5)}},
		{[]list{one(1), wide}, []list{one(1), one(5)}},
		{[]list{one(3), wide}, []list{one(3), one(5)}},
		// Nothing is chosen by 0, by 4, or by what is below 0.
		{[]list{one(0), wide}, nil},
		{[]list{one(4), wide}, nil},
		{[]list{one(-1), wide}, nil},
		{[]list{ranges(-99, 0, 4, 99), wide}, nil},
		{[]list{one(2), ranges(-99, 6, 8, 99)}, nil},
		{[]list{ranges(1, 3), ranges(6, 6, 8, 9)}, nil},
	})
	expectRows(t, among(0, 1, 2, 3), []row{
		{[]list{wide, one(5), one(7), wide}, []list{ranges(1, 2), one(5), one(7), ranges(5, 5, 7, 7)}},
		{[]list{wide, ranges(1, 3, 6, 6), ranges(4, 5, 7, 9), ranges(4, 5)}, []list{one(2), ranges(1, 3, 6, 6), ranges(4, 5), ranges(4, 5)}},
		{[]list{ranges(0, 1), ranges(1, 3), ranges(4, 9), ranges(3, 4)}, []list{one(1), one(3), ranges(4, 9), one(3)}},
		{[]list{ranges(2, 3), ranges(1, 3), ranges(4, 9), ranges(3, 4)}, []list{one(2), ranges(1, 3), one(4), one(4)}},
		// The index and the result are no choices, though they stand in X.
		{[]list{one(0), wide, wide, wide}, nil},
		{[]list{one(3), wide, wide, wide}, nil},
		{[]list{ranges(-9, 0, 3, 9), wide, wide, wide}, nil},
		{[]list{ranges(1, 2), ranges(1, 3), ranges(7, 9), ranges(4, 6)}, nil},
		{[]list{one(1), ranges(1, 3), ranges(4, 6), ranges(4, 6)}, nil},
	})
}

// P16.1: the result keeps what is chosen by a value that the index has still, and nothing else.
func TestResult(t *testing.T) {
	expectRows(t, table(1, 9, 2, 3, 9), []row{
		{[]list{ranges(1, 5), ranges(0, 10)}, []list{ranges(1, 5), ranges(1, 3, 9, 9)}},
		{[]list{ranges(1, 2), ranges(0, 10)}, []list{ranges(1, 2), ranges(1, 1, 9, 9)}},
		{[]list{ranges(2, 2, 5, 5), ranges(0, 10)}, []list{ranges(2, 2, 5, 5), one(9)}},
		{[]list{ranges(1, 5), ranges(2, 8)}, []list{ranges(3, 4), ranges(2, 3)}},
	})
	expectRows(t, among(0, 1, 2, 3, 4), []row{
		{
			[]list{ranges(1, 3), ranges(0, 5), ranges(3, 8), ranges(20, 30), ranges(-9, 25)},
			[]list{ranges(1, 3), ranges(0, 5), ranges(3, 8), ranges(20, 30), ranges(0, 8, 20, 25)},
		},
		{
			[]list{ranges(1, 3), ranges(0, 0, 9, 9), ranges(1, 1, 8, 8), ranges(20, 30), ranges(0, 9)},
			[]list{ranges(1, 2), ranges(0, 0, 9, 9), ranges(1, 1, 8, 8), ranges(20, 30), ranges(0, 1, 8, 9)},
		},
		{
			[]list{ranges(1, 1, 3, 3), ranges(0, 5), ranges(3, 8), ranges(4, 6, 9, 9), ranges(5, 9)},
			[]list{ranges(1, 1, 3, 3), ranges(0, 5), ranges(3, 8), ranges(4, 6, 9, 9), ranges(5, 6, 9, 9)},
		},
	})
}

// P16.1: what the index chooses is equal to the result only where nothing else may be chosen.
func TestChosen(t *testing.T) {
	expectRows(t, among(0, 1, 2, 3), []row{
		{[]list{one(1), ranges(0, 9), ranges(0, 9), ranges(3, 12)}, []list{one(1), ranges(3, 9), ranges(0, 9), ranges(3, 9)}},
		{[]list{one(2), ranges(0, 9), ranges(0, 9), ranges(3, 12)}, []list{one(2), ranges(0, 9), ranges(3, 9), ranges(3, 9)}},
		{[]list{ranges(1, 2), ranges(0, 9), ranges(0, 9), ranges(3, 12)}, []list{ranges(1, 2), ranges(0, 9), ranges(0, 9), ranges(3, 9)}},
		{[]list{one(1), ranges(1, 2, 5, 6, 9, 9), ranges(0, 9), ranges(2, 5, 9, 10)}, []list{one(1), ranges(2, 2, 5, 5, 9, 9), ranges(0, 9), ranges(2, 2, 5, 5, 9, 9)}},
		// The index has a single value from the first step on.
		{[]list{ranges(0, 1), ranges(0, 9), ranges(0, 9), ranges(3, 12)}, []list{one(1), ranges(3, 9), ranges(0, 9), ranges(3, 9)}},
		{[]list{ranges(1, 2), ranges(0, 9), ranges(0, 2), ranges(3, 12)}, []list{one(1), ranges(3, 9), ranges(0, 2), ranges(3, 9)}},
	})
	expectRows(t, among(0, 1, 2), []row{
		{[]list{ranges(-9, 9), ranges(0, 4), ranges(3, 9)}, []list{one(1), ranges(3, 4), ranges(3, 4)}},
		{[]list{ranges(-9, 9), ranges(0, 4), ranges(5, 9)}, nil},
	})
}

// P16.1: the index is the result, too. Its values are held against what it had, then against what it has.
func TestIndexIsResult(t *testing.T) {
	expectRows(t, tableOn(0, 0, 3, 1, 5, 9, 2), []row{
		// 1 chooses 3, 2 chooses 1, 3 chooses 5 and 5 chooses 2; 4 chooses 9.
		{[]list{ranges(0, 8)}, []list{ranges(1, 3, 5, 5)}},
		{[]list{ranges(1, 3)}, []list{one(1)}},
		{[]list{ranges(2, 3, 5, 5)}, []list{one(5)}},
		// The first step leaves one value, and that chooses another one.
		{[]list{ranges(1, 1, 3, 3)}, nil},
		{[]list{ranges(1, 2)}, nil},
		{[]list{one(1)}, nil},
		{[]list{ranges(1, 1, 5, 5)}, nil},
	})
	expectRows(t, tableOn(0, 0, 9, 2, 2), []row{
		{[]list{ranges(0, 9)}, []list{one(2)}},
		{[]list{ranges(2, 3)}, []list{one(2)}},
		{[]list{ranges(3, 9)}, nil},
	})
	expectRows(t, tableOn(0, 0, 1), []row{{[]list{ranges(-9, 9)}, []list{one(1)}}, {[]list{ranges(2, 9)}, nil}})
	expectRows(t, among(0, 1, 2, 0), []row{
		{[]list{ranges(0, 9), ranges(2, 5), ranges(1, 9)}, []list{ranges(1, 2), ranges(2, 5), ranges(1, 9)}},
		// A single value is left by the second step only: the third one asks for it then.
		{[]list{ranges(1, 2), ranges(2, 5), ranges(2, 9)}, []list{one(2), ranges(2, 5), one(2)}},
		{[]list{ranges(1, 2), ranges(1, 1, 3, 3), ranges(1, 1, 4, 4)}, []list{one(1), one(1), ranges(1, 1, 4, 4)}},
		{[]list{ranges(1, 2), ranges(1, 5), one(1)}, []list{ranges(1, 2), ranges(1, 5), one(1)}},
		{[]list{ranges(1, 2), one(2), one(1)}, []list{ranges(1, 2), one(2), one(1)}},
		{[]list{ranges(1, 2), one(2), one(3)}, nil},
	})
}

// P16.1: a choice's variable is the index or the result; the choices are those of the domains that are handed in.
func TestChoiceIsIndexOrResult(t *testing.T) {
	// The first choice has 5, which the index loses: the result has found it there already.
	expectRows(t, among(0, 0, 1), []row{
		{[]list{ranges(1, 1, 5, 5), one(5)}, nil},
		{[]list{ranges(1, 1, 5, 5), ranges(1, 5)}, []list{one(1), one(1)}},
		{[]list{ranges(-9, 9), ranges(1, 2)}, []list{one(1), one(1)}},
		{[]list{ranges(-9, 9), ranges(2, 3)}, nil},
	})
	expectRows(t, among(0, 0, 1, 2), []row{
		{[]list{ranges(1, 9), ranges(2, 3), ranges(0, 8)}, []list{ranges(1, 2), ranges(2, 3), ranges(1, 8)}},
		{[]list{ranges(2, 9), ranges(2, 3), ranges(0, 8)}, []list{one(2), ranges(2, 3), ranges(2, 3)}},
	})
	expectRows(t, among(0, 1, 2, 1), []row{
		{[]list{ranges(0, 9), ranges(3, 5), ranges(6, 8)}, []list{one(1), ranges(3, 5), ranges(6, 8)}},
		{[]list{ranges(2, 9), ranges(3, 6), ranges(5, 8)}, []list{one(2), ranges(5, 6), ranges(5, 6)}},
		{[]list{ranges(0, 9), ranges(3, 6), ranges(5, 8)}, []list{ranges(1, 2), ranges(3, 6), ranges(5, 8)}},
	})
	expectRows(t, among(0, 1, 1, 2), []row{
		{[]list{ranges(0, 9), ranges(3, 5), ranges(4, 8)}, []list{ranges(1, 2), ranges(3, 5), ranges(4, 5)}},
		{[]list{one(2), ranges(3, 5), ranges(4, 8)}, []list{one(2), ranges(4, 5), ranges(4, 5)}},
	})
	expectRows(t, among(0, 0, 0), []row{
		{[]list{ranges(-9, 9)}, []list{one(1)}},
		{[]list{one(1)}, []list{one(1)}},
		{[]list{ranges(2, 9)}, nil},
	})
}

// P16.1: X tells which variables there are; all others keep what they have.
func TestPlaces(t *testing.T) {
	others := ranges(-20, -8, -6, 20)
	for _, p := range [][]int{{0, 1, 2, 3}, {3, 2, 1, 0}, {0, 2, 3, 1}, {5, 3, 1, 0}, {1, 5, 3, 4}, {4, 0, 5, 2}} {
		expect := func(c api.Con, given, want []list) {
			t.Helper()
			d := slices.Repeat([]list{others}, 6)
			narrowed := slices.Clone(d)
			for i, x := range c.X {
				d[x], narrowed[x] = given[i], want[i]
			}
			expectNarrow(t, c, d, narrowed, api.OK)
		}
		expect(tableOn(p[0], p[1], 5, 7, 5), []list{ranges(0, 9), ranges(5, 6)}, []list{ranges(1, 1, 3, 3), one(5)})
		expect(tableOn(p[1], p[3], 5, 7, 5), []list{ranges(2, 9), ranges(5, 6)}, []list{one(3), one(5)})
		expect(among(p...), []list{ranges(1, 2), ranges(1, 2), ranges(4, 5), ranges(2, 4)}, []list{ranges(1, 2), ranges(1, 2), ranges(4, 5), ranges(2, 2, 4, 4)})
		expect(among(p...), []list{ranges(2, 9), ranges(1, 2), ranges(4, 5), ranges(2, 4)}, []list{one(2), ranges(1, 2), one(4), one(4)})
	}
}
