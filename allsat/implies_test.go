package allsat

import (
	"math/rand/v2"
	"slices"
	"testing"

	"skua/api"
)

// P8.2: whether a literal is true wherever clauses hold, and others are true.
func TestImplies(t *testing.T) {
	const last = api.MaxLits
	l := [][]int{{-1, 3}, {-2, 3}, {-4, -5, 3}}
	for _, x := range []struct {
		l    [][]int
		lit  int
		is   []int
		want bool
	}{
		{l, 3, []int{1}, true}, {l, 3, []int{2}, true}, {l, 3, []int{4}, false}, {l, 3, []int{4, 5}, true}, {l, 3, []int{5, 4, 5}, true}, {l, 3, nil, false}, {l, -3, []int{1}, false}, {l, -1, []int{-3}, true}, {l, 1, []int{3}, false}, {l, -4, []int{-3, 5}, true}, {l, -4, []int{-3}, false}, {l, 3, []int{-1, -2, -4, -5}, false},

		// No clauses, and ones that can't hold: then anything is implied.
		{nil, 1, nil, false}, {nil, -1, nil, false}, {nil, 1, []int{1}, true}, {nil, 1, []int{-1}, false}, {nil, -1, []int{-1}, true}, {nil, 1, []int{2, -3}, false}, {[][]int{{}}, 1, nil, true}, {[][]int{{}}, -1, []int{1}, true}, {[][]int{{1}, {-1}}, 5, nil, true}, {[][]int{{1}, {-1}}, -5, []int{5}, true},
		{[][]int{{1}}, 1, nil, true}, {[][]int{{1}}, -1, nil, false}, {[][]int{{1}}, 2, []int{-1}, true}, {[][]int{{1, 2}, {1, -2}}, 1, nil, true}, {[][]int{{1, -1}}, 1, nil, false},

		// Others that can't be true together.
		{nil, 3, []int{1, -1}, true}, {nil, -3, []int{2, 1, -2}, true}, {[][]int{{-1, -2}}, 3, []int{1, 2}, true}, {[][]int{{-1, -2}}, -3, []int{1, 2}, true}, {[][]int{{-1, -2}}, 3, []int{1, -2}, false},

		{[][]int{{-1, last}}, last, []int{1}, true}, {[][]int{{-last, 1}}, -last, []int{-1}, true}, {nil, last, []int{last - 1, 1 - last}, true}, {nil, -last, []int{1 - last}, false},
	} {
		if ok, e := Implies(x.l, x.lit, x.is...); ok != x.want || e != api.OK {
			t.Errorf("%v: %d with %v: %v, %d", x.l, x.lit, x.is, ok, e)
		}
	}
}

// P8.2: a number that is no literal, wherever it stands.
func TestImpliesRefuses(t *testing.T) {
	refused := func(l [][]int, lit int, is ...int) {
		t.Helper()
		if ok, e := Implies(l, lit, is...); ok || e != api.ErrCnfLit {
			t.Errorf("%v: %d with %v: %v, %d", l, lit, is, ok, e)
		}
	}
	for _, l := range [][][]int{nil, {{1, 2}}, {{}}, {{1}, {-1}}} {
		for _, n := range wrong {
			refused(l, n)
			refused(l, n, n, 1)
			refused(l, 1, n)
			refused(l, 1, 1, -1, n)
			refused(l, 1, n, 2)
			refused(append(slices.Clone(l), []int{n}), 1)
			refused(append([][]int{{1, n, -1}}, l...), 1, 1)
		}
	}
}

// P8.2: clauses made by chance: as all worlds tell.
func TestImpliesAsWanted(t *testing.T) {
	r := rand.New(rand.NewPCG(8, 2))
	many := map[bool]int{}
	for range 20000 {
		vars := some(r, 1+r.IntN(6))
		l := made(r, vars, r.IntN(3*len(vars)), 1+r.IntN(4))
		lit, is := numbers(r, vars, 1)[0], numbers(r, vars, r.IntN(4))
		want := !can(worlds(l, vars), append(slices.Clone(is), -lit))
		if ok, e := Implies(l, lit, is...); ok != want || e != api.OK {
			t.Fatalf("%v: %d with %v: %v, %d", l, lit, is, ok, e)
		}
		many[want]++
	}
	if many[true] < 3000 || many[false] < 3000 {
		t.Error(many)
	}
}
