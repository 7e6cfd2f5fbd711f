package allsat

import (
	"slices"

	"skua/api"
	"skua/sat"
)

// asker tells whether clauses can hold where some literals are true.
func asker(l [][]int) func(is ...int) api.Answer {
	s := sat.New()
	for _, c := range l {
		s.Add(c...)
	}
	return func(is ...int) api.Answer {
		a, _ := s.Solve(0, is...) // there is no limit, and all literals may be
		return a
	}
}

// finder tells a cube of the first variables where clauses can hold, whatever the others of these are, and some literals of these are true; false: there is none.
func finder(l [][]int, vars int) func(is ...int) (cube, bool) {
	ask, near := asker(l), about(l, vars)
	return func(is ...int) (cube, bool) {
		a := ask(is...)
		if !a.Sat {
			return cube{}, false
		}
		return around(near, vars, a.Model), true
	}
}

// about is the clauses that have something to do with the first variables, the literals of the last variables first.
func about(l [][]int, vars int) [][]int {
	var out [][]int
	for _, c := range l {
		if slices.ContainsFunc(c, func(p int) bool { return max(p, -p) <= vars }) {
			c = slices.Clone(c)
			slices.SortFunc(c, func(p, q int) int { return max(q, -q) - max(p, -p) })
			out = append(out, c)
		}
	}
	return out
}

// around is those of a model's literals of the first variables that clauses hold with, as the model's other variables are.
func around(l [][]int, vars int, model []int) cube {
	var c cube
	isTrue := func(p int) bool { return model[max(p, -p)-1] == p }
	isKept := func(p int) bool { return isTrue(p) && (max(p, -p) > vars || c.has(max(p, -p)-1)) }
	for _, clause := range l {
		if slices.ContainsFunc(clause, isKept) {
			continue
		}
		// Ways are told by their last variables first, so what stays open is best among the first ones.
		p := clause[slices.IndexFunc(clause, isTrue)]
		c = c.with(max(p, -p)-1, p > 0)
	}
	return c
}
