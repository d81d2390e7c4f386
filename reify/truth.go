package reify

import (
	"slices"

	"touchstone/api"
	"touchstone/linear"
	"touchstone/set"
)

// demand narrows by what c says of its sum where the flag is 1.
func demand(c api.Con, d [][]api.Range) ([][]api.Range, api.Errno) {
	if c.Kind == api.LinEqReif {
		return linear.Narrow(withoutFlag(c, api.LinEq), d)
	}
	return linear.Narrow(withoutFlag(c, api.LinLe), d)
}

// deny narrows by what c says of its sum where the flag is 0.
func deny(c api.Con, d [][]api.Range) ([][]api.Range, api.Errno) {
	switch c.Kind {
	case api.LinEqReif:
		return linear.Narrow(withoutFlag(c, api.LinNe), d)
	case api.LinLeReif:
		return exceed(c, d)
	}
	// A LinLeImp asks for nothing then.
	return copied(d), api.OK
}

// withoutFlag is what a Kind without a flag says of c's sum.
func withoutFlag(c api.Con, kind int) api.Con {
	return api.Con{Kind: kind, X: c.X[:len(c.A)], A: c.A, C: c.C}
}

// exceed bounds the sum with its numbers turned round by -C - 1, where the flag is 0. With the greatest C
// that number is no C any more: so the flag is counted in as a 1, and the whole is bounded by -C.
func exceed(c api.Con, d [][]api.Range) ([][]api.Range, api.Errno) {
	flag := flagOf(c)
	turned := api.Con{Kind: api.LinLe, X: []int{flag}, A: []int64{1}, C: -c.C}
	for i, n := range c.A {
		// The flag may stand in the sum, too. There it is 0 and adds nothing.
		if c.X[i] != flag {
			turned.X = append(turned.X, c.X[i])
			turned.A = append(turned.A, -n)
		}
	}
	raised := slices.Clone(d)
	raised[flag] = []api.Range{{Lo: 1, Hi: 1}}
	out, err := linear.Narrow(turned, raised)
	if err != api.OK {
		return nil, err
	}
	out[flag] = []api.Range{{Lo: 0, Hi: 0}}
	return out, api.OK
}

// decide takes from a flag that may be 0 and 1 the value that no sum agrees with. There is a sum, so
// that one of both is left.
func decide(c api.Con, d [][]api.Range) [][]api.Range {
	out := copied(d)
	flag := flagOf(c)
	sum, _ := linear.Ends(c, d)
	if isAlways(c, sum) {
		out[flag] = set.Without(out[flag], 0)
	}
	if isNever(c, sum) {
		out[flag] = set.Without(out[flag], 1)
	}
	return out
}

// isAlways tells whether each sum between these ends has the flag 1.
func isAlways(c api.Con, sum api.Range) bool {
	switch c.Kind {
	case api.LinEqReif:
		return sum.Lo == c.C && sum.Hi == c.C
	case api.LinLeReif:
		return sum.Hi <= c.C
	}
	// The flag of a LinLeImp may be 0 whatever the sum is.
	return false
}

// isNever tells whether no sum between these ends allows the flag 1.
func isNever(c api.Con, sum api.Range) bool {
	return sum.Lo > c.C || c.Kind == api.LinEqReif && sum.Hi < c.C
}
