package solve

import (
	"slices"

	"skua/api"
	"skua/blast"
)

// soon is how many conflicts it may take to leave terms out of a core: that it is as small as can be isn't worth a long search.
const soon = 200

// truth is the type of what is true or false.
var truth = api.Type{Width: 1}

// ask is whether some literals can all be true: one for each term, by where that stands, and its bit.
func (s *Solver) ask(limit int, l []int, literal func(at, bit int) int) (api.Answer, api.Errno) {
	if e := s.check(l); e != api.OK {
		return api.Answer{}, e
	}
	if !s.know(l) {
		return api.Answer{}, api.ErrSolveLimit
	}
	is := make([]int, len(l))
	for i, f := range l {
		bits, _ := s.Bits(f)
		is[i] = literal(i, bits[0])
	}
	s.prepare(s.under(is))
	a, ok := s.find(limit, is)
	if !ok {
		return api.Answer{}, api.ErrSolveLimit
	}
	s.asked++
	return a, api.OK
}

// check is whether all terms are there, and of bool.
func (s *Solver) check(l []int) api.Errno {
	e := api.OK
	for _, f := range l {
		switch s.pool.Type(f) {
		case truth:
		case api.Type{}:
			return api.ErrTermNode
		default:
			e = api.ErrTermType
		}
	}
	return e
}

// find is what the search that stands first answers; false: it came to too many conflicts.
func (s *Solver) find(limit int, is []int) (api.Answer, bool) {
	x := s.searches[0]
	ahead := x.Conflicts()
	a, e := x.Solve(limit, is...)
	s.conflicts += x.Conflicts() - ahead
	return a, e == api.OK
}

// fewer is a core without literals that it can do without, as far as so many conflicts tell.
func (s *Solver) fewer(core []int, room int) []int {
	end := s.conflicts + room
	for _, n := range slices.Clone(core) {
		left := end - s.conflicts
		if left <= 0 {
			break // to a search it would mean that there is no limit
		}
		if !slices.Contains(core, n) {
			continue // it went with another one
		}
		rest := slices.DeleteFunc(slices.Clone(core), func(m int) bool { return m == n })
		if a, ok := s.find(left, rest); ok && !a.Sat {
			core = a.Core
		}
	}
	return core
}

// value is what a variable is in a model.
func (s *Solver) value(v api.Value, model []int) uint64 {
	f, _ := s.pool.Var(v.Type, v.Var)
	bits, _ := s.Bits(f)
	var is []int
	for _, n := range bits {
		if n <= len(model) { // what the model doesn't tell may be anything
			is = append(is, model[n-1])
		}
	}
	return blast.Value(bits, is)
}
