package set

import "touchstone/api"

// Cut returns the set of d's values from lo to hi.
func Cut(d []api.Range, lo, hi int64) []api.Range {
	if !Right(d) {
		return nil
	}
	var part []api.Range
	for _, r := range d {
		part = withFull(part, max(r.Lo, lo), min(r.Hi, hi))
	}
	return part
}

// Without returns the set of all values of d except v.
func Without(d []api.Range, v int64) []api.Range {
	if !Right(d) {
		return nil
	}
	var rest []api.Range
	for _, r := range d {
		if v < r.Lo || v > r.Hi {
			rest = append(rest, r)
			continue
		}
		rest = withFull(rest, r.Lo, v-1)
		rest = withFull(rest, v+1, r.Hi)
	}
	return rest
}

// Meet returns the set of the values that both a and b have.
func Meet(a, b []api.Range) []api.Range {
	if !Right(a) || !Right(b) {
		return nil
	}
	var both []api.Range
	for len(a) > 0 && len(b) > 0 {
		both = withFull(both, max(a[0].Lo, b[0].Lo), min(a[0].Hi, b[0].Hi))
		// The range that ends first meets nothing that follows in the other set.
		if a[0].Hi < b[0].Hi {
			a = a[1:]
		} else {
			b = b[1:]
		}
	}
	return both
}

// withFull adds the range from lo to hi to d, unless it is empty.
func withFull(d []api.Range, lo, hi int64) []api.Range {
	if lo > hi {
		return d
	}
	return append(d, api.Range{Lo: lo, Hi: hi})
}
