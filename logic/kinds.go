package logic

// Each of these narrows by what one Kind, or two of them, say; false as soon as nothing is left for a variable.

// clause asks that at some position the variable is what makes it true.
func (p places) clause(a []int64) bool {
	n := len(p.x)
	for at := range n {
		if p.is(at) == truth(a[at]) {
			return true
		}
	}
	if at, ok := p.onlyOpen(n); ok {
		return p.set(at, truth(a[at]))
	}
	return p.count(n, open) > 0
}

// truth is what makes a position of a clause true that has this number.
func truth(a int64) state {
	if a == 1 {
		return yes
	}
	return no
}

// all asks that the flag is s if and only if all of the rest are: an And says so of yes, an Or says so of no.
func (p places) all(s state) bool {
	// The flag stands behind the rest.
	rest := len(p.x) - 1
	return p.decide(rest, s) && p.demand(rest, s)
}

// decide sets the flag where the rest leave it no choice.
func (p places) decide(flag int, s state) bool {
	switch {
	case p.count(flag, not(s)) > 0:
		return p.set(flag, not(s))
	case p.count(flag, s) == flag:
		return p.set(flag, s)
	}
	return true
}

// demand sets those of the rest that the flag leaves no choice.
func (p places) demand(flag int, s state) bool {
	if p.is(flag) == s {
		return p.setFirst(flag, s)
	}
	// That all of the rest are s beside a flag that isn't needs no question: decide has failed then.
	if p.is(flag) == not(s) && p.count(flag, not(s)) == 0 {
		if at, ok := p.onlyOpen(flag); ok {
			return p.set(at, not(s))
		}
	}
	return true
}

// xor asks that the last position is yes if and only if the first two differ: that is, that an even
// number of the three is yes.
func (p places) xor() bool {
	n := len(p.x)
	odd := state(p.count(n, yes) % 2)
	if at, ok := p.onlyOpen(n); ok {
		return p.set(at, odd)
	}
	return odd == no || p.count(n, open) > 0
}
