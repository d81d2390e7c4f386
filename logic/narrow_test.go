package logic_test

import (
	"slices"
	"testing"

	"touchstone/api"
)

// P15.1: the chapter's examples.
func TestExamples(t *testing.T) {
	expectRows(t, api.Clause, "+-", []row{{"0?", "00"}})
	expectRows(t, api.And, "", []row{{"0??", "0?0"}, {"??1", "111"}, {"1?0", "100"}})
	expectRows(t, api.Or, "", []row{{"?", "0"}})
	expectRows(t, api.Xor, "", []row{{"1?0", "110"}})
}

// P15.1: one position of a clause, or two, with each sign; none at all.
func TestClause(t *testing.T) {
	expectRows(t, api.Clause, "", []row{{"", ""}})
	expectNarrow(t, on(api.Clause, ""), doms("?01w"), nil, api.ErrFail)
	expectRows(t, api.Clause, "+", []row{{"0", ""}, {"1", "1"}, {"?", "1"}})
	expectRows(t, api.Clause, "-", []row{{"0", "0"}, {"1", ""}, {"?", "0"}})
	expectRows(t, api.Clause, "++", []row{
		{"00", ""}, {"01", "01"}, {"0?", "01"},
		{"10", "10"}, {"11", "11"}, {"1?", "1?"},
		{"?0", "10"}, {"?1", "?1"}, {"??", "??"},
	})
	expectRows(t, api.Clause, "+-", []row{
		{"00", "00"}, {"01", ""}, {"0?", "00"},
		{"10", "10"}, {"11", "11"}, {"1?", "1?"},
		{"?0", "?0"}, {"?1", "11"}, {"??", "??"},
	})
	expectRows(t, api.Clause, "--", []row{
		{"00", "00"}, {"01", "01"}, {"0?", "0?"},
		{"10", "10"}, {"11", ""}, {"1?", "10"},
		{"?0", "?0"}, {"?1", "01"}, {"??", "??"},
	})
	// One that is true is enough, wherever it stands, beside one that is open or two that are.
	expectRows(t, api.Clause, "+-+", []row{
		{"0?1", "0?1"}, {"1?0", "1?0"}, {"?00", "?00"}, {"??1", "??1"},
		{"0?0", "000"}, {"?10", "110"}, {"01?", "011"}, {"010", ""}, {"?1?", "?1?"}, {"0??", "0??"}, {"???", "???"},
	})
}

// P15.1: the rest decide the flag, and the flag decides the rest.
func TestAnd(t *testing.T) {
	expectRows(t, api.And, "", []row{
		{"?", "1"}, {"1", "1"}, {"0", ""},
		{"0?", "00"}, {"1?", "11"}, {"??", "??"},
		{"00", "00"}, {"10", ""}, {"?0", "00"},
		{"01", ""}, {"11", "11"}, {"?1", "11"},
		{"00?", "000"}, {"01?", "010"}, {"0??", "0?0"}, {"10?", "100"}, {"11?", "111"}, {"1??", "1??"}, {"?0?", "?00"}, {"?1?", "?1?"}, {"???", "???"},
		{"000", "000"}, {"010", "010"}, {"0?0", "0?0"}, {"100", "100"}, {"110", ""}, {"1?0", "100"}, {"?00", "?00"}, {"?10", "010"}, {"??0", "??0"},
		{"001", ""}, {"011", ""}, {"0?1", ""}, {"101", ""}, {"111", "111"}, {"1?1", "111"}, {"?01", ""}, {"?11", "111"}, {"??1", "111"},
		// The only open one of the rest is not decided beside one that is 0.
		{"01?0", "01?0"}, {"1?00", "1?00"}, {"11?0", "1100"}, {"1?10", "1010"}, {"?110", "0110"}, {"1??0", "1??0"},
	})
}

// P15.1: Or is And with 0 and 1 exchanged.
func TestOr(t *testing.T) {
	expectRows(t, api.Or, "", []row{
		{"?", "0"}, {"0", "0"}, {"1", ""},
		{"0?", "00"}, {"1?", "11"}, {"??", "??"},
		{"00", "00"}, {"10", ""}, {"?0", "00"},
		{"01", ""}, {"11", "11"}, {"?1", "11"},
		{"00?", "000"}, {"01?", "011"}, {"0??", "0??"}, {"10?", "101"}, {"11?", "111"}, {"1??", "1?1"}, {"?0?", "?0?"}, {"?1?", "?11"}, {"???", "???"},
		{"000", "000"}, {"010", ""}, {"0?0", "000"}, {"100", ""}, {"110", ""}, {"1?0", ""}, {"?00", "000"}, {"?10", ""}, {"??0", "000"},
		{"001", ""}, {"011", "011"}, {"0?1", "011"}, {"101", "101"}, {"111", "111"}, {"1?1", "1?1"}, {"?01", "101"}, {"?11", "?11"}, {"??1", "??1"},
		{"10?1", "10?1"}, {"0?11", "0?11"}, {"00?1", "0011"}, {"0?01", "0101"}, {"?001", "1001"}, {"0??1", "0??1"},
	})
}

// P15.1: all states of the three positions of an Xor.
func TestXor(t *testing.T) {
	expectRows(t, api.Xor, "", []row{
		{"000", "000"}, {"001", ""}, {"00?", "000"}, {"010", ""}, {"011", "011"}, {"01?", "011"}, {"0?0", "000"}, {"0?1", "011"}, {"0??", "0??"},
		{"100", ""}, {"101", "101"}, {"10?", "101"}, {"110", "110"}, {"111", ""}, {"11?", "110"}, {"1?0", "110"}, {"1?1", "101"}, {"1??", "1??"},
		{"?00", "000"}, {"?01", "101"}, {"?0?", "?0?"}, {"?10", "110"}, {"?11", "011"}, {"?1?", "?1?"}, {"??0", "??0"}, {"??1", "??1"}, {"???", "???"},
	})
}

// P15.1: all states of up to six variables that stand at one position each.
func TestSmall(t *testing.T) {
	for n := range 7 {
		eachOn(places(n), func(c api.Con) {
			eachText(n, "01?", func(states string) { expectJudged(t, c, states) })
		})
	}
}

// P15.1: all lists of up to five of three variables, in all states.
func TestSharedVariables(t *testing.T) {
	eachX(3, 5, func(x []int) {
		eachOn(x, func(c api.Con) {
			eachText(3, "01?", func(states string) { expectJudged(t, c, states) })
		})
	})
}

// P15.1: a variable counts at each of its positions: open at two of them, it leaves none that is the only one.
func TestSharedEdges(t *testing.T) {
	for _, p := range []struct {
		c    api.Con
		rows []row
	}{
		{on(api.Clause, "++", 0, 0), []row{{"?", "?"}, {"1", "1"}, {"0", ""}}},
		{on(api.Clause, "--", 0, 0), []row{{"?", "?"}, {"1", ""}, {"0", "0"}}},
		{on(api.Clause, "+-", 0, 0), []row{{"?", "?"}, {"1", "1"}, {"0", "0"}}},
		{on(api.Clause, "+-+", 0, 0, 1), []row{{"?0", "?0"}, {"0?", "0?"}, {"1?", "1?"}}},
		{on(api.And, "", 0, 0), []row{{"?", "?"}, {"0", "0"}, {"1", "1"}}},
		{on(api.And, "", 0, 0, 1), []row{{"?0", "?0"}, {"?1", "11"}, {"0?", "00"}, {"1?", "11"}, {"10", ""}}},
		{on(api.And, "", 0, 1, 0), []row{{"??", "??"}, {"?0", "00"}, {"?1", "?1"}, {"0?", "0?"}, {"1?", "11"}, {"10", ""}}},
		{on(api.And, "", 0, 0, 0), []row{{"?", "?"}, {"0", "0"}, {"1", "1"}}},
		{on(api.Or, "", 0, 0), []row{{"?", "?"}, {"0", "0"}, {"1", "1"}}},
		{on(api.Or, "", 0, 0, 1), []row{{"?1", "?1"}, {"?0", "00"}, {"1?", "11"}, {"0?", "00"}, {"01", ""}}},
		{on(api.Or, "", 0, 1, 0), []row{{"??", "??"}, {"?1", "11"}, {"?0", "?0"}, {"1?", "1?"}, {"0?", "00"}, {"01", ""}}},
		{on(api.Xor, "", 0, 0, 1), []row{{"?0", "?0"}, {"?1", "?1"}, {"0?", "00"}, {"1?", "10"}, {"11", ""}, {"01", ""}}},
		{on(api.Xor, "", 0, 1, 0), []row{{"?0", "?0"}, {"?1", "?1"}, {"0?", "00"}, {"1?", "10"}, {"11", ""}}},
		{on(api.Xor, "", 1, 0, 0), []row{{"?0", "?0"}, {"?1", "?1"}, {"0?", "00"}, {"1?", "10"}, {"11", ""}}},
		{on(api.Xor, "", 0, 0, 0), []row{{"?", "?"}, {"0", "0"}, {"1", ""}}},
	} {
		for _, r := range p.rows {
			expectLeft(t, p.c, r.states, r.want)
		}
	}
}

// P15.1: X tells which variables there are; all others keep what they have, boolean ones or not.
func TestPlaces(t *testing.T) {
	for _, x := range [][]int{{0, 1, 2}, {2, 1, 0}, {1, 2, 0}, {5, 0, 3}, {3, 5, 1}, {4, 2, 5}} {
		for _, other := range []string{"w", "?", "0", "1"} {
			expect := func(kind int, signs, states, want string) {
				t.Helper()
				d := slices.Repeat(doms(other), 6)
				left := slices.Clone(d)
				for i := range 3 {
					d[x[i]], left[x[i]] = doms(states)[i], doms(want)[i]
				}
				expectNarrow(t, on(kind, signs, x...), d, left, api.OK)
			}
			expect(api.Clause, "+-+", "01?", "011")
			expect(api.Clause, "+-+", "?1?", "?1?")
			expect(api.And, "", "0??", "0?0")
			expect(api.And, "", "?10", "010")
			expect(api.Or, "", "?0?", "?0?")
			expect(api.Or, "", "??0", "000")
			expect(api.Xor, "", "1?0", "110")
			expect(api.Xor, "", "?11", "011")
		}
	}
}
