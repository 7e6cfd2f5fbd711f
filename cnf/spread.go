package cnf

import "slices"

// Spread is all literals that follow one by one from those that are true; false: a clause can't hold.
func Spread(l [][]int, is ...int) ([]int, bool) {
	told, ok := Clean(is)
	if !ok {
		return nil, false
	}
	s := spreader{at: map[int][]int{}, truth: map[int]struct{}{}}
	for _, c := range l {
		s.add(c)
	}
	for _, n := range told {
		s.tell(n)
	}
	if !s.run() {
		return nil, false
	}
	slices.Sort(s.trail)
	return s.trail, true
}

// spreader counts the literals of each clause that it hasn't gone past as false: so each literal of each clause is looked at a few times, whatever the order in which they follow.
type spreader struct {
	clauses [][]int
	open    []int
	at      map[int][]int    // the clauses in which a literal stands
	truth   map[int]struct{} // what is true
	trail   []int            // the same, in the order in which it came to be
}

// add keeps a clause; one that always holds never tells anything.
func (s *spreader) add(c []int) {
	l, ok := Clean(c)
	if !ok {
		return
	}
	for _, n := range l {
		s.at[n] = append(s.at[n], len(s.clauses))
	}
	s.clauses = append(s.clauses, l)
	s.open = append(s.open, len(l))
}

// tell makes a literal true.
func (s *spreader) tell(n int) {
	s.truth[n] = struct{}{}
	s.trail = append(s.trail, n)
}

// run goes on until nothing more follows; false: a clause has false literals alone.
func (s *spreader) run() bool {
	for i := range s.clauses {
		if !s.look(i) {
			return false
		}
	}
	for next := 0; next < len(s.trail); next++ {
		for _, i := range s.at[-s.trail[next]] {
			s.open[i]--
			if !s.look(i) {
				return false
			}
		}
	}
	return true
}

// look makes the only literal that is left of a clause true; false: none is.
func (s *spreader) look(i int) bool {
	if s.open[i] > 1 {
		return true
	}
	c, isTrue := s.clauses[i], within(s.truth)
	if slices.ContainsFunc(c, isTrue) {
		return true
	}
	left := slices.IndexFunc(c, func(n int) bool { return !isTrue(-n) })
	if left < 0 {
		return false
	}
	s.tell(c[left])
	return true
}
