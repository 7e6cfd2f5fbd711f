package allsat

import (
	"math"
	"math/rand/v2"
	"slices"

	"skua/api"
)

// wrong is numbers that are no literals.
var wrong = []int{0, api.MaxLits + 1, -api.MaxLits - 1, math.MaxInt, math.MinInt, math.MinInt + 1, 1 << 32, 1<<32 + 1, -1 << 32}

// same is whether lists of lists are the same.
func same(a, b [][]int) bool { return slices.EqualFunc(a, b, slices.Equal[[]int]) }

// numbers is so many literals of some variables.
func numbers(r *rand.Rand, vars []int, many int) []int {
	var l []int
	for range many {
		l = append(l, vars[r.IntN(len(vars))]*(1-2*r.IntN(2)))
	}
	return l
}

// made is clauses of some variables, now and then a long or an empty one.
func made(r *rand.Rand, vars []int, many, long int) [][]int {
	var l [][]int
	for range many {
		c := numbers(r, vars, long)
		if r.IntN(20) == 0 {
			c = numbers(r, vars, r.IntN(6)*min(1, r.IntN(4)))
		}
		l = append(l, c)
	}
	return l
}

// long is clauses of as many variables as it comes, each one once.
func long(r *rand.Rand, vars []int, many int) [][]int {
	var l [][]int
	for range many {
		l = append(l, signed(part(r, vars, 2+r.IntN(6)), int(r.Uint32())))
	}
	return l
}

// some is some variables, rising: the first ones, or ones far from one another.
func some(r *rand.Rand, many int) []int {
	last := many
	if r.IntN(3) == 0 {
		last = api.MaxLits
	}
	met := map[int]bool{last: true}
	for len(met) < many {
		met[1+r.IntN(last)] = true
	}
	var l []int
	for v := range met {
		l = append(l, v)
	}
	slices.Sort(l)
	return l
}

// part is some of a list, in its order: all but one of so many, as it comes.
func part(r *rand.Rand, l []int, of int) []int {
	var out []int
	for _, n := range l {
		if r.IntN(of) > 0 {
			out = append(out, n)
		}
	}
	return out
}

// worlds is all lists of a literal of each of some variables with which clauses hold, the first variable counting least.
func worlds(l [][]int, vars []int) [][]int {
	var out [][]int
	for n := range 1 << len(vars) {
		is := signed(vars, n)
		if holds(l, is) {
			out = append(out, is)
		}
	}
	return out
}

// signed is literals of variables: true where a number has the bit 1, the first one's is the least.
func signed(vars []int, n int) []int {
	var l []int
	for i, v := range vars {
		if n>>i&1 == 0 {
			v = -v
		}
		l = append(l, v)
	}
	return l
}

// holds is whether each clause has a true literal.
func holds(l [][]int, is []int) bool {
	for _, c := range l {
		if !slices.ContainsFunc(c, func(p int) bool { return slices.Contains(is, p) }) {
			return false
		}
	}
	return true
}

// can is whether there is one of some worlds in which some literals are true.
func can(worlds [][]int, is []int) bool {
	return slices.ContainsFunc(worlds, func(w []int) bool { return within(is, w) })
}

// within is whether all of some numbers are among others.
func within(l, all []int) bool {
	return !slices.ContainsFunc(l, func(n int) bool { return !slices.Contains(all, n) })
}

// rises is whether numbers rise, each one once.
func rises(l []int) bool {
	for i := 1; i < len(l); i++ {
		if l[i-1] >= l[i] {
			return false
		}
	}
	return true
}

// subsets is all choices of so many of some variables, in order.
func subsets(vars []int, many int) [][]int {
	if many == 0 {
		return [][]int{nil}
	}
	var out [][]int
	for i, v := range vars {
		for _, l := range subsets(vars[i+1:], many-1) {
			out = append(out, append([]int{v}, l...))
		}
	}
	return out
}

// cubes is all cubes of so many literals of some variables, in order: signs tell as numbers in which the last variable counts least.
func cubes(vars []int, many int) [][]int {
	var out [][]int
	for _, l := range subsets(vars, many) {
		slices.Reverse(l)
		for n := range 1 << many {
			c := signed(l, n)
			slices.Reverse(c)
			out = append(out, c)
		}
	}
	return out
}

// parity is clauses that say of some variables and a last one that this is whether an odd number of them is true.
func parity(odd int, vars ...int) [][]int {
	var l [][]int
	all := append(slices.Clone(vars), odd)
	for n := range 1 << len(all) {
		is := signed(all, n)
		many := 0
		for _, p := range is {
			if p > 0 {
				many++
			}
		}
		if many%2 != 0 {
			l = append(l, turned(is))
		}
	}
	return l
}

// turned is the other literals of the same variables.
func turned(l []int) []int {
	out := make([]int, len(l))
	for i, p := range l {
		out[i] = -p
	}
	return out
}

// chain is clauses that say of the first variables, one by one, whether an odd number of those up to there is true; the last of what they say is told, too.
func chain(vars int) ([][]int, int) {
	var l [][]int
	last := 1
	for v := 2; v <= vars; v++ {
		l = append(l, parity(vars+v, last, v)...)
		last = vars + v
	}
	return l, last
}

// first is the first variables.
func first(many int) []int {
	var l []int
	for v := 1; v <= many; v++ {
		l = append(l, v)
	}
	return l
}
