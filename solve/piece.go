package solve

import (
	"slices"

	"skua/api"
)

// piece is the clauses that came up with one term. They say what the variables are that came up with it, by those that were there ahead, and forbid nothing of the latter: so what doesn't hang on these variables can do without the clauses.
type piece struct {
	clauses [][]int
	on      []int // the other pieces whose variables they name
}

// full is whether there are more variables than clauses may have.
func (s *Solver) full() bool { return s.Vars() > api.MaxLits }

// know has the clauses of terms stand in pieces; false: there are too many variables.
func (s *Solver) know(l []int) bool {
	// What is new by now was there at first, or was asked for from outside, where Fresh may have told it already.
	if s.Vars() >= len(s.home) {
		s.Fresh()
		s.put(s.Clauses()[s.told:])
	}
	// It goes part by part, and ends when there are too many: all of a term could take far more room than there is.
	for open := slices.Clone(l); len(open) > 0 && !s.full(); {
		f := open[len(open)-1]
		if parts := s.unknown(f); len(parts) > 0 {
			open = append(open, parts...)
			continue
		}
		open = open[:len(open)-1]
		s.meet(f)
	}
	return !s.full()
}

// unknown is those of a term's parts that weren't met yet.
func (s *Solver) unknown(f int) []int {
	_, parts := s.pool.Parts(f)
	return slices.DeleteFunc(parts, func(g int) bool {
		_, ok := s.known[g]
		return ok
	})
}

// meet puts the clauses of a term, whose parts were met, into a piece.
func (s *Solver) meet(f int) {
	if _, ok := s.known[f]; ok {
		return
	}
	s.known[f] = struct{}{}
	s.Bits(f)
	s.put(s.Fresh())
}

// put makes a piece of clauses, and of the variables that are new.
func (s *Solver) put(l [][]int) {
	here := len(s.pieces)
	for len(s.home) <= s.Vars() {
		s.home = append(s.home, here)
	}
	x := piece{clauses: l}
	seen := map[int]struct{}{here: {}}
	for _, c := range l {
		x.on = append(x.on, s.homes(c, seen)...)
	}
	s.pieces = append(s.pieces, x)
	s.told += len(l)
}

// homes is the pieces that the variables of literals came up with, but for those that were seen.
func (s *Solver) homes(is []int, seen map[int]struct{}) []int {
	var l []int
	for _, n := range is {
		l = append(l, s.home[max(n, -n)])
	}
	return unseen(l, seen)
}

// under is the pieces on which literals hang, rising.
func (s *Solver) under(is []int) []int {
	seen := map[int]struct{}{}
	all := s.homes(is, seen)
	for at := 0; at < len(all); at++ {
		all = append(all, unseen(s.pieces[all[at]].on, seen)...)
	}
	slices.Sort(all)
	return all
}

// unseen is those of some numbers that weren't seen; from now on they are.
func unseen(l []int, seen map[int]struct{}) []int {
	var out []int
	for _, i := range l {
		if _, ok := seen[i]; !ok {
			seen[i] = struct{}{}
			out = append(out, i)
		}
	}
	return out
}
