package allsat

import (
	"cmp"
	"slices"
)

// search looks for the shortest cubes with which a literal must be true: all of one length, and then those of the next.
type search struct {
	vars  int
	find  func(is ...int) (cube, bool)
	ways  []cube // where the literal is false, that were come by
	found map[cube]struct{}
}

// grow goes through the cubes that have so many literals more than this one, of variables from one on.
func (s *search) grow(c cube, from, more int) {
	isOpen := slices.ContainsFunc(s.ways, c.meets)
	if more == 0 {
		if !isOpen && !s.hasPart(c) {
			s.ask(c)
		}
		return
	}
	if !isOpen {
		return // this one does, or has a part that does: all of its length were looked at
	}
	for at := from; at <= s.vars-more; at++ {
		s.grow(c.with(at, false), at+1, more-1)
		s.grow(c.with(at, true), at+1, more-1)
	}
}

// hasPart is whether a smaller part of a cube was found.
func (s *search) hasPart(c cube) bool {
	for of := (c.of - 1) & c.of; of != c.of; of = (of - 1) & c.of {
		if _, ok := s.found[cube{of, c.is & of}]; ok {
			return true
		}
	}
	return false
}

// ask finds out about a cube.
func (s *search) ask(c cube) {
	if way, ok := s.find(c.lits()...); ok {
		s.ways = append(s.ways, way)
	} else {
		s.found[c] = struct{}{}
	}
}

// told is what was found, by length, then by variables, then by signs.
func (s *search) told(n *names) [][]int {
	var l [][]int
	for c := range s.found {
		l = append(l, n.out(c.lits()))
	}
	byVars := func(p, q int) int { return max(p, -p) - max(q, -q) }
	slices.SortFunc(l, func(a, b []int) int {
		return cmp.Or(len(a)-len(b), slices.CompareFunc(a, b, byVars), slices.Compare(a, b))
	})
	return l
}
