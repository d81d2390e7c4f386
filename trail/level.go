package trail

import "touchstone/api"

// Push adds a level.
func (s *Store) Push() api.Errno {
	if !s.made() {
		return api.ErrNil
	}
	if len(s.levels) >= api.MaxLevel {
		return api.ErrBig
	}
	s.levels = append(s.levels, map[int][]api.Range{})
	return api.OK
}

// Pop removes the last level; all domains become what they were when it was pushed.
func (s *Store) Pop() api.Errno {
	if !s.made() {
		return api.ErrNil
	}
	last := len(s.levels) - 1
	if last < 0 {
		return api.ErrNone
	}
	for x, d := range s.levels[last] {
		s.doms[x] = d
	}
	// What the level kept is not needed any more.
	s.levels[last] = nil
	s.levels = s.levels[:last]
	clear(s.changed)
	return api.OK
}

// Level returns the number of levels.
func (s *Store) Level() int {
	if !s.made() {
		return 0
	}
	return len(s.levels)
}

// keep has the last level keep the domain of x, before it is narrowed.
func (s *Store) keep(x int) {
	if len(s.levels) == 0 {
		return
	}
	level := s.levels[len(s.levels)-1]
	// A second narrowing finds a domain that is no longer the one from when the level was pushed.
	if _, kept := level[x]; !kept {
		level[x] = s.doms[x]
	}
}
