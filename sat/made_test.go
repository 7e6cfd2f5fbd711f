package sat

import (
	"math/rand/v2"
	"slices"
	"testing"

	"skua/api"
	"skua/cnf"
)

// of is a solver of some clauses.
func of(t *testing.T, l [][]int) *Solver {
	t.Helper()
	s := New()
	for _, c := range l {
		if e := s.Add(c...); e != api.OK {
			t.Fatalf("%v: %d", c, e)
		}
	}
	return s
}

// numbers is so many literals of the first variables.
func numbers(r *rand.Rand, vars, many int) []int {
	var l []int
	for range many {
		n := 1 + r.IntN(vars)
		if r.IntN(2) == 0 {
			n = -n
		}
		l = append(l, n)
	}
	return l
}

// signs is a literal of each of the first variables.
func signs(r *rand.Rand, vars int) []int {
	var l []int
	for v := 1; v <= vars; v++ {
		l = append(l, v*(1-2*r.IntN(2)))
	}
	return l
}

// made is clauses of so many literals each.
func made(r *rand.Rand, vars, many, long int) [][]int {
	var l [][]int
	for range many {
		l = append(l, numbers(r, vars, long))
	}
	return l
}

// planted is clauses that hold where some literals, one of each variable, are true.
func planted(r *rand.Rand, is []int, many, long int) [][]int {
	var l [][]int
	for len(l) < many {
		c := numbers(r, len(is), long)
		if cnf.Holds([][]int{c}, is...) {
			l = append(l, c)
		}
	}
	return l
}

// pigeons is clauses that say that each of some pigeons has a hole of its own.
func pigeons(many, holes int) [][]int {
	var l [][]int
	at := func(p, h int) int { return p*holes + h + 1 }
	for p := range many {
		var c []int
		for h := range holes {
			c = append(c, at(p, h))
			for q := range p {
				l = append(l, []int{-at(p, h), -at(q, h)})
			}
		}
		l = append(l, c)
	}
	return l
}

// parity is clauses that say of how many of some variables are true whether that is odd.
func parity(odd bool, vars ...int) [][]int {
	var l [][]int
	for signs := range 1 << len(vars) {
		var c []int
		even := true
		for i, v := range vars {
			if signs>>i&1 != 0 {
				v, even = -v, !even
			}
			c = append(c, v)
		}
		if even == odd {
			l = append(l, c)
		}
	}
	return l
}

// circles is two circles of variables, each of which is the one ahead of it turned by the same other variable: around both of them the turns are even and odd.
func circles(r *rand.Rand, long int, both bool) [][]int {
	turns := r.Perm(long)
	var l [][]int
	for circle := range 2 {
		at := func(i int) int { return long + circle*long + i%long + 1 }
		for i, turn := range turns {
			l = append(l, parity(i == 0 && circle == 1 && both, at(i), at(i+1), turn+1)...)
		}
		turns = r.Perm(long)
	}
	return l
}

// product is clauses that say that two numbers of so many bits, above 1, have a product.
func product(bits int, of uint64) [][]int {
	const one = 1
	l := [][]int{{one}}
	vars := one
	fresh := func() int {
		vars++
		return vars
	}
	and := func(a, b int) int {
		v := fresh()
		l = append(l, []int{-v, a}, []int{-v, b}, []int{v, -a, -b})
		return v
	}
	xor := func(a, b int) int {
		v := fresh()
		l = append(l, parity(false, a, b, v)...)
		return v
	}
	var a, b, sum []int
	for range bits {
		a, b, sum = append(a, fresh()), append(b, fresh()), append(sum, -one, -one)
	}
	for i := range bits {
		carry := -one
		for j := range bits {
			p := and(a[j], b[i])
			half := xor(sum[i+j], p)
			more := -and(-and(sum[i+j], p), -and(half, carry))
			sum[i+j], carry = xor(half, carry), more
		}
		sum[i+bits] = carry
	}
	for i, v := range sum {
		if of>>i&1 == 0 {
			v = -v
		}
		l = append(l, []int{v})
	}
	return append(l, slices.Clone(a[1:]), slices.Clone(b[1:]))
}

// worlds is all ways to make some variables true or false in which clauses hold, as bits.
type worlds struct {
	vars int
	left []uint32
}

func allWorlds(vars int) *worlds {
	w := &worlds{vars: vars}
	for is := range uint32(1) << vars {
		w.left = append(w.left, is)
	}
	return w
}

// isTrue is whether a literal is true in a world.
func isTrue(is uint32, n int) bool {
	if n > 0 {
		return is>>(n-1)&1 == 1
	}
	return is>>(-n-1)&1 == 0
}

// anyTrue is whether one of some literals is true in a world.
func anyTrue(is uint32, c []int) bool {
	return slices.ContainsFunc(c, func(n int) bool { return isTrue(is, n) })
}

func (w *worlds) add(c []int) {
	w.left = slices.DeleteFunc(w.left, func(is uint32) bool { return !anyTrue(is, c) })
}

// can is whether there is a world in which all of some literals are true.
func (w *worlds) can(assumed []int) bool {
	return slices.ContainsFunc(w.left, func(is uint32) bool {
		return !slices.ContainsFunc(assumed, func(n int) bool { return !isTrue(is, n) })
	})
}

// model is whether literals are one of each variable, rising, such that clauses hold, and what is assumed is true.
func model(l [][]int, assumed, is []int, vars int) bool {
	if len(is) != vars || !cnf.Holds(l, is...) {
		return false
	}
	for i, n := range is {
		if n != i+1 && n != -i-1 {
			return false
		}
	}
	return !slices.ContainsFunc(assumed, func(n int) bool { return is[max(n, -n)-1] != n })
}

// rises is whether some literals are among others, rising, each once.
func rises(some, of []int) bool {
	for i, n := range some {
		if !slices.Contains(of, n) || i > 0 && some[i-1] >= n {
			return false
		}
	}
	return true
}
