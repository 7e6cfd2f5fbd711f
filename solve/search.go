package solve

import (
	"slices"

	"skua/sat"
)

const (
	much = 2 // a search knows at most so many times as many clauses as a question needs
	kept = 4 // searches
)

// search is a solver of the clauses of some pieces. What it has learnt for one question helps with the next one that is like it; but it has to find out what all of its variables are, and may come to conflicts that have nothing to do with what is asked: so it shouldn't know much else than a question needs.
type search struct {
	*sat.Solver
	pieces map[int]struct{}
	size   int // how many clauses they have
}

// prepare has a search stand first that knows some pieces, and not much else.
func (s *Solver) prepare(l []int) {
	x := &search{Solver: sat.New(), pieces: map[int]struct{}{}}
	if i := s.nearest(l); i >= 0 {
		x = s.searches[i]
		s.searches = slices.Delete(s.searches, i, i+1)
	}
	others := s.searches[:min(len(s.searches), kept-1)]
	s.searches = slices.Insert(others, 0, x)
	for _, i := range l {
		x.add(i, s.pieces[i])
	}
}

// nearest is which search has the fewest clauses to come to know, of those that have fewer than a new one has, and don't know much else; below 0: none.
func (s *Solver) nearest(l []int) int {
	size := 0
	for _, i := range l {
		size += len(s.pieces[i].clauses)
	}
	best, fewest := -1, size
	for i, x := range s.searches {
		if more := x.lacks(s.pieces, l); more < fewest && x.size+more <= much*size {
			best, fewest = i, more
		}
	}
	return best
}

// lacks is how many clauses some pieces have that a search doesn't know.
func (x *search) lacks(pieces []piece, l []int) int {
	many := 0
	for _, i := range l {
		if _, ok := x.pieces[i]; !ok {
			many += len(pieces[i].clauses)
		}
	}
	return many
}

// add has a search know a piece.
func (x *search) add(i int, p piece) {
	if _, ok := x.pieces[i]; ok {
		return
	}
	x.pieces[i] = struct{}{}
	x.size += len(p.clauses)
	for _, c := range p.clauses {
		x.Add(c...)
	}
}
