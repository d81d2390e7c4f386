package logic_test

import (
	"slices"
	"strings"
	"testing"

	"touchstone/api"
)

// P15.1: as many positions as there may be; the last one, the first one or one between is the one that counts.
func TestManyX(t *testing.T) {
	for at := range 31 {
		of := func(one, others, flag string) string {
			return strings.Repeat(others, at) + one + strings.Repeat(others, 30-at) + flag
		}
		expectRows(t, api.And, "", []row{
			{of("0", "1", "?"), of("0", "1", "0")}, {of("?", "1", "0"), of("0", "1", "0")}, {of("?", "1", "?"), of("?", "1", "?")},
			{of("1", "?", "?"), of("1", "?", "?")}, {of("0", "?", "?"), of("0", "?", "0")}, {of("?", "0", "0"), of("?", "0", "0")},
			{of("1", "?", "1"), of("1", "1", "1")}, {of("0", "1", "1"), ""}, {of("0", "?", "1"), ""}, {of("1", "1", "0"), ""},
		})
		expectRows(t, api.Or, "", []row{
			{of("1", "0", "?"), of("1", "0", "1")}, {of("?", "0", "1"), of("1", "0", "1")}, {of("?", "0", "?"), of("?", "0", "?")},
			{of("0", "?", "?"), of("0", "?", "?")}, {of("1", "?", "?"), of("1", "?", "1")}, {of("?", "1", "1"), of("?", "1", "1")},
			{of("0", "?", "0"), of("0", "0", "0")}, {of("1", "0", "0"), ""}, {of("1", "?", "0"), ""}, {of("0", "0", "1"), ""},
		})
		signs := strings.Repeat("+", at) + "-" + strings.Repeat("+", 31-at)
		expectRows(t, api.Clause, signs, []row{
			{of("1", "0", "0"), ""}, {of("?", "0", "0"), of("0", "0", "0")}, {of("1", "0", "?"), of("1", "0", "1")},
			{of("?", "0", "?"), of("?", "0", "?")}, {of("0", "?", "?"), of("0", "?", "?")}, {of("0", "0", "?"), of("0", "0", "?")},
			{of("1", "?", "?"), of("1", "?", "?")}, {of("?", "0", "1"), of("?", "0", "1")},
		})
	}
}

// P15.1: one more position than there may be, whatever the states are.
func TestTooManyX(t *testing.T) {
	for _, state := range []string{"0", "1", "?"} {
		for _, kind := range []int{api.Clause, api.And, api.Or} {
			for _, n := range []int{31, 32, 33, 34, 64} {
				signs := ""
				if kind == api.Clause {
					signs = strings.Repeat("-", n)
				}
				states := strings.Repeat(state, n)
				for _, x := range [][]int{places(n), make([]int, n)} {
					c := on(kind, signs, x...)
					if n > 32 {
						expectUnfit(t, c, doms(states))
					} else {
						expectJudged(t, c, states)
					}
				}
			}
		}
	}
}

// P15.1: as many variables as there may be, the last of which are those that c names.
func TestManyVariables(t *testing.T) {
	states := strings.Repeat("?", 61)
	expectMany := func(kind int, signs, last, want string) {
		t.Helper()
		expectLeft(t, on(kind, signs, 63, 61, 62), states+last, states+want)
	}
	// Position 0 is the last letter, position 1 the first one.
	expectMany(api.Clause, "+-+", "1?0", "110")
	expectMany(api.Clause, "+-+", "10?", "101")
	expectMany(api.And, "", "?1?", "111")
	expectMany(api.And, "", "?01", "001")
	expectMany(api.Or, "", "?0?", "000")
	expectMany(api.Or, "", "?10", "110")
	expectMany(api.Xor, "", "?10", "110")
	expectMany(api.Xor, "", "1?0", "110")
	others := slices.Repeat([]list{ranges(-most, most)}, 61)
	expectNarrow(t, on(api.Xor, "", 63, 61, 62), slices.Concat(others, doms("?10")), slices.Concat(others, doms("110")), api.OK)
}

// P15.1: beside the variables of c others that have more ranges than a text can give them.
func TestManyRanges(t *testing.T) {
	var odd list
	for v := int64(-9999); v <= 9999; v += 2 {
		odd = append(odd, api.Range{Lo: v, Hi: v})
	}
	d := append(doms("0?0"), odd)
	expectNarrow(t, on(api.Clause, "+++", 0, 1, 2), d, append(doms("010"), odd), api.OK)
	expectUnfit(t, on(api.Clause, "+++", 0, 1, 3), d)
}
