package allsat

import (
	"math/rand/v2"
	"slices"
	"testing"

	"skua/api"
	"skua/sat"
)

// P8.4: literals that can't be true, none of which can be left out; the edges where there is but one such list.
func TestLeast(t *testing.T) {
	const last = api.MaxLits
	for _, x := range []struct {
		l    [][]int
		is   []int
		want []int
		ok   bool
	}{
		// They can hold.
		{nil, nil, nil, false}, {nil, []int{1, -2, 1}, nil, false}, {[][]int{{-1, -2}}, []int{1, 4}, nil, false}, {[][]int{{-1, -2}}, []int{-1, 2}, nil, false}, {[][]int{{1}}, []int{1}, nil, false}, {[][]int{{1, 2}}, nil, nil, false},

		// They can't, whatever is true.
		{[][]int{{}}, nil, nil, true}, {[][]int{{}}, []int{1}, nil, true}, {[][]int{{1}, {-1}}, []int{2, -2, 3}, nil, true}, {[][]int{{1, 2}, {1, -2}, {-1, 2}, {-1, -2}}, []int{1, 2}, nil, true},

		{[][]int{{-1}}, []int{1}, []int{1}, true}, {[][]int{{1}}, []int{3, -1, 2}, []int{-1}, true}, {[][]int{{-1, -2}}, []int{2, 3, 1, 3}, []int{1, 2}, true}, {[][]int{{-1, 2}}, []int{1, -2, 1, -2}, []int{-2, 1}, true}, {[][]int{{1, 2, 3}}, []int{-1, -2, -3}, []int{-3, -2, -1}, true},
		{[][]int{{-1, 5}, {-2, 6}, {-5, -6}}, []int{4, 2, 3, 1}, []int{1, 2}, true}, {[][]int{{-1, 5}, {-1, -5}}, []int{2, 1}, []int{1}, true},

		// Both literals of a variable: these two, or less.
		{nil, []int{1, -1}, []int{-1, 1}, true}, {nil, []int{3, -2, 4, 2, 2}, []int{-2, 2}, true}, {[][]int{{2}}, []int{1, 2, -2}, []int{-2}, true}, {[][]int{{-2, -7}, {-2, 7}}, []int{1, 2, -2}, []int{2}, true},

		{[][]int{{-last, 1 - last}}, []int{last, 5, last - 1}, []int{last - 1, last}, true}, {nil, []int{last, -last}, []int{-last, last}, true},
	} {
		if a, ok, e := Least(x.l, x.is...); !slices.Equal(a, x.want) || ok != x.ok || e != api.OK {
			t.Errorf("%v with %v: %v, %v, %d, want %v", x.l, x.is, a, ok, e, x.want)
		}
	}
}

// P8.4: a number that is no literal, wherever it stands.
func TestLeastRefuses(t *testing.T) {
	refused := func(l [][]int, is ...int) {
		t.Helper()
		if a, ok, e := Least(l, is...); a != nil || ok || e != api.ErrCnfLit {
			t.Errorf("%v with %v: %v, %v, %d", l, is, a, ok, e)
		}
	}
	for _, l := range [][][]int{nil, {{1, 2}}, {{}}, {{1}, {-1}}, {{-1, -2}}} {
		for _, n := range wrong {
			refused(l, n)
			refused(l, n, 1, 2)
			refused(l, 1, 2, -1, n)
			refused(append(slices.Clone(l), []int{n}), 1, 2)
			refused(append([][]int{{1, n, -1}}, l...))
		}
	}
}

// P8.4: clauses made by chance: as all worlds tell.
func TestLeastAsWanted(t *testing.T) {
	r := rand.New(rand.NewPCG(8, 4))
	told := map[int]int{}
	for range 10000 {
		vars := some(r, 1+r.IntN(8))
		l := made(r, vars, r.IntN(3*len(vars)), 2+r.IntN(3))
		is := numbers(r, vars, r.IntN(10))
		if r.IntN(3) > 0 {
			l = long(r, vars, r.IntN(6*len(vars)))
			is = signed(vars, int(r.Uint32()))
		}
		w := worlds(l, vars)
		a, ok, e := Least(l, is...)
		if e != api.OK || ok == can(w, is) || !ok && a != nil {
			t.Fatalf("%v with %v: %v, %v, %d", l, is, a, ok, e)
		}
		if !ok {
			told[-1]++
			continue
		}
		if !rises(a) || !within(a, is) || can(w, a) {
			t.Fatalf("%v with %v: %v", l, is, a)
		}
		for i := range a {
			if !can(w, slices.Delete(slices.Clone(a), i, i+1)) {
				t.Fatalf("%v with %v: %v without %d", l, is, a, a[i])
			}
		}
		told[len(a)]++
	}
	for many := -1; many < 5; many++ {
		if told[many] < 50 {
			t.Error(told)
		}
	}
}

// P8.4: many literals, of which many are needed, or many lists of a few.
func TestLeastMany(t *testing.T) {
	for _, many := range []int{100, 1000} {
		all := first(many)
		if a, ok, e := Least([][]int{turned(all)}, append(all, many+1, -many-2)...); !slices.Equal(a, all) || !ok || e != api.OK {
			t.Error(len(a), ok, e)
		}
		var row [][]int
		for v := 1; v < many; v++ {
			row = append(row, []int{-v, v + 1})
		}
		if a, ok, e := Least(row, append([]int{-many}, all...)...); len(a) != 2 || a[0] != -many || !ok || e != api.OK {
			t.Error(a, ok, e)
		}
	}
	r := rand.New(rand.NewPCG(8, 6))
	for range 20 {
		vars := first(100)
		l := made(r, vars, 340, 3)
		l = slices.DeleteFunc(l, func(c []int) bool { return len(c) < 2 })
		is := signed(vars[:63], int(r.Uint64()>>2))
		a, ok, e := Least(l, is...)
		s := sat.New()
		for _, c := range l {
			s.Add(c...)
		}
		if b, _ := s.Solve(0, is...); b.Sat == ok || e != api.OK {
			t.Fatal(ok, e)
		}
		if b, _ := s.Solve(0, a...); b.Sat == ok || !within(a, is) || !rises(a) {
			t.Fatal(a, ok)
		}
		for i := range a {
			if b, _ := s.Solve(0, slices.Delete(slices.Clone(a), i, i+1)...); !b.Sat {
				t.Fatal(a, a[i])
			}
		}
	}
}
