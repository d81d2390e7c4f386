package set

import (
	"slices"

	"touchstone/api"
)

// Has reports whether v is a value of d.
func Has(d []api.Range, v int64) bool {
	next, ok := Next(d, v)
	return ok && next == v
}

// Size returns the number of d's values.
func Size(d []api.Range) int64 {
	if !Right(d) {
		return 0
	}
	size := int64(0)
	for _, r := range d {
		size += r.Hi - r.Lo + 1
	}
	return size
}

// Ends returns the least and the greatest value of d; false if d has none.
func Ends(d []api.Range) (api.Range, bool) {
	if len(d) == 0 || !Right(d) {
		return api.Range{}, false
	}
	return api.Range{Lo: d[0].Lo, Hi: d[len(d)-1].Hi}, true
}

// Next returns the least value of d that is at least v; false if there is none.
func Next(d []api.Range, v int64) (int64, bool) {
	if !Right(d) {
		return 0, false
	}
	for _, r := range d {
		if v <= r.Hi {
			return max(v, r.Lo), true
		}
	}
	return 0, false
}

// Same reports whether a and b are sets with the same values.
func Same(a, b []api.Range) bool {
	// Each set has one form only, so there is no need to look at the values.
	return Right(a) && slices.Equal(a, b)
}
