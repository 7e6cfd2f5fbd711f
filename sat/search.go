package sat

import (
	"math/bits"
	"slices"

	"skua/api"
)

const (
	firstRoom = 3000 // clauses that are learnt before some are forgotten
	moreRoom  = 500  // and how many more each time
	goodGlue  = 2    // clauses on no more levels are kept
	pace      = 64   // conflicts of a try, or some times as many
)

// search tries, until a clause fails where nothing was guessed, or none fails where all was.
func (s *Solver) search(limit int, assumed []lit) (api.Answer, api.Errno) {
	ahead := s.conflicts
	var core []lit
tries:
	for try := 1; ; try++ {
		for end := s.conflicts + pace*luby(try); s.conflicts < end; {
			bad := s.spread()
			switch {
			case bad == nil && len(s.levels) == 0:
				if core = s.assume(assumed); core != nil {
					s.conflicts++
					break tries
				}
			case bad == nil && !s.guess():
				return api.Answer{Sat: true, Model: s.model()}, api.OK
			case bad != nil:
				s.conflicts++
				if len(s.levels) <= 1 {
					core = s.blame(bad)
					break tries
				}
				s.learn(bad)
				if s.conflicts-ahead == limit {
					return api.Answer{}, api.ErrSatLimit
				}
			}
		}
		s.back(1)
		s.forget()
	}
	s.dead = len(core) == 0
	return api.Answer{Core: s.told(core)}, api.OK
}

// assume makes literals true, on a level of their own, and all ahead of what follows from them: so where they can't all be true a clause fails, or one of them is false as a fact; that one is told.
func (s *Solver) assume(l []lit) []lit {
	s.rise()
	for _, p := range l {
		if s.truth[p] < 0 {
			return []lit{p}
		}
		if s.truth[p] == 0 {
			s.set(p, nil)
		}
	}
	return nil
}

// guess makes a literal true, on a level of its own; false: all variables are something.
func (s *Solver) guess() bool {
	for v, ok := s.order.take(); ok; v, ok = s.order.take() {
		if p := s.last[v]; s.truth[p] == 0 {
			s.rise()
			s.set(p, nil)
			return true
		}
	}
	return false
}

// model is what all variables are; those that aren't in use may be anything.
func (s *Solver) model() []int {
	l := slices.Grow([]int(nil), s.most)
	for n := 1; n <= s.most; n++ {
		l = append(l, -n)
	}
	for v, n := range s.names {
		if s.truth[2*v] > 0 {
			l[n-1] = n
		}
	}
	return l
}

// told is literals as they are told outside, rising.
func (s *Solver) told(l []lit) []int {
	var out []int
	for _, p := range l {
		out = append(out, s.name(p))
	}
	slices.Sort(out)
	return out
}

// luby is 1, 1, 2, 1, 1, 2, 4, ..: most tries are short, and yet there are some of any length.
func luby(i int) int {
	for {
		half := 1 << (bits.Len(uint(i)) - 1)
		if i == 2*half-1 {
			return half
		}
		i -= half - 1
	}
}
