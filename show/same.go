package show

import (
	"slices"

	"touchstone/parse"
)

// sameItem tells whether an item that was parsed is x in all fields. An empty slice is the same as
// none.
func sameItem(parsed, x parse.Item) bool {
	return parsed.Kind == x.Kind && parsed.Name == x.Name && parsed.Bool == x.Bool &&
		parsed.Size == x.Size && parsed.Out == x.Out && parsed.Ask == x.Ask &&
		slices.Equal(parsed.Dom, x.Dom) && slices.EqualFunc(parsed.Vals, x.Vals, sameExpr)
}

// sameExpr goes no deeper than the expression that was parsed: x may hold itself.
func sameExpr(parsed, x parse.Expr) bool {
	return parsed.Kind == x.Kind && parsed.N == x.N && parsed.S == x.S &&
		slices.EqualFunc(parsed.L, x.L, sameExpr)
}
