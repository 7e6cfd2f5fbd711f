package bdd

import (
	"math"
	"math/big"
	"slices"
	"testing"

	"skua/api"
)

// P9.2: what a diagram is in each way, and lists that aren't as long as there are variables.
func TestEval(t *testing.T) {
	s := made(t, 3, 100)
	l := first(t, s, 3)
	f := must(t)(s.Ite(l[0], l[1], l[2]))
	for n := range 8 {
		w := way(3, n)
		want := w[2]
		if w[0] {
			want = w[1]
		}
		if is, e := s.Eval(f, w); is != want || e != api.OK {
			t.Error(w, is, e)
		}
	}
	for end := range 2 {
		if is, e := s.Eval(end, []bool{true, false, true}); is != (end == 1) || e != api.OK {
			t.Error(end, is, e)
		}
	}
	for _, at := range []int{0, 1, l[0], f} {
		for _, is := range [][]bool{nil, {}, {true}, {true, true}, {true, true, true, true}, make([]bool, 1000)} {
			if is, e := s.Eval(at, is); is || e != api.ErrBddVar {
				t.Error(at, is, e)
			}
		}
	}
	for _, no := range noNodes(s) {
		for _, is := range [][]bool{nil, {true, true, true}, {true}} {
			if is, e := s.Eval(no, is); is || e != api.ErrBddNode {
				t.Error(no, is, e)
			}
		}
	}
	none := made(t, 0, 2)
	for end := range 2 {
		if is, e := none.Eval(end, nil); is != (end == 1) || e != api.OK {
			t.Error(end, is, e)
		}
		if is, e := none.Eval(end, []bool{true}); is || e != api.ErrBddVar {
			t.Error(end, is, e)
		}
	}
}

// P9.2: the first way, where what comes first must be true, or needn't be; there is none of 0.
func TestPick(t *testing.T) {
	s := made(t, 4, 100)
	l := first(t, s, 4)
	not := must(t)(s.Not(l[1]))
	and := must(t)(s.And(l[0], l[3]))
	low := must(t)(s.And(not, l[2]))
	for _, x := range []struct {
		f    int
		want string
	}{
		{1, "0000"}, {l[0], "1000"}, {l[3], "0001"}, {not, "0000"}, {and, "1001"}, {low, "0010"},
		{must(t)(s.Or(l[0], l[3])), "0001"}, {must(t)(s.Or(and, low)), "0010"}, {must(t)(s.And(and, low)), "1011"}, {must(t)(s.Iff(l[0], not)), "0100"},
		{must(t)(s.Ite(l[1], l[0], l[2])), "0010"}, {must(t)(s.And(l[1], l[2])), "0110"},
	} {
		want := make([]bool, 4)
		for i, b := range x.want {
			want[i] = b == '1'
		}
		if w, e := s.Pick(x.f); !slices.Equal(w, want) || e != api.OK {
			t.Error(x, w, e)
		}
	}
	for _, no := range append(noNodes(s), 0) {
		if w, e := s.Pick(no); w != nil || e != api.ErrBddNode {
			t.Error(no, w, e)
		}
	}
	none := made(t, 0, 2)
	if w, e := none.Pick(1); len(w) != 0 || e != api.OK {
		t.Error(w, e)
	}
	if w, e := none.Pick(0); w != nil || e != api.ErrBddNode {
		t.Error(w, e)
	}
}

// P9.2: in how many ways, modulo 2^64, and of how many nodes.
func TestCountAndSize(t *testing.T) {
	for _, vars := range []int{1, 2, 3, 10, 62, 63, 64, 65, 66, 128, 255, 256} {
		s := made(t, vars, 4*vars+10)
		l := first(t, s, vars)
		power := func(n int) uint64 {
			if n >= 64 {
				return 0
			}
			return 1 << n
		}
		all, some := 1, 0
		for _, f := range turned(l) {
			all, some = must(t)(s.And(f, all)), must(t)(s.Or(f, some))
		}
		ends := must(t)(s.Iff(l[0], l[vars-1]))
		sizes := []int{0, 0, 1, 1, vars, vars, 3}
		counts := []uint64{0, power(vars), power(vars - 1), power(vars - 1), 1, power(vars) - 1, power(vars - 1)}
		if vars == 1 {
			sizes[6], counts[6] = 0, 2
		}
		for i, f := range []int{0, 1, l[0], l[vars-1], all, some, ends} {
			if n, e := s.Count(f); n != counts[i] || e != api.OK {
				t.Error(vars, i, n, e)
			}
			if n, e := s.Size(f); n != sizes[i] || e != api.OK {
				t.Error(vars, i, n, e)
			}
		}
		for _, no := range noNodes(s) {
			if n, e := s.Count(no); n != 0 || e != api.ErrBddNode {
				t.Error(no, n, e)
			}
			if n, e := s.Size(no); n != 0 || e != api.ErrBddNode {
				t.Error(no, n, e)
			}
		}
	}
	none := made(t, 0, 2)
	for end := range 2 {
		if n, e := none.Count(end); n != uint64(end) || e != api.OK {
			t.Error(end, n, e)
		}
		if n, e := none.Size(end); n != 0 || e != api.OK {
			t.Error(end, n, e)
		}
	}
}

// P9.2: that so many of the variables are true, at least and just so many, in as many ways as binomials say, of as many nodes as sums may stand there.
func TestCountOfSums(t *testing.T) {
	for _, vars := range []int{5, 64, 100, 256} {
		s := made(t, vars, 1<<20)
		l := first(t, s, vars)
		for _, least := range []int{1, 2, 3, vars / 2, vars - 1, vars} {
			want := []*big.Int{new(big.Int), new(big.Int).Binomial(int64(vars), int64(least))}
			for many := least; many <= vars; many++ {
				want[0].Add(want[0], new(big.Int).Binomial(int64(vars), int64(many)))
			}
			f := atLeast(t, s, l, least)
			just := f
			if least < vars {
				just = must(t)(s.And(f, must(t)(s.Not(atLeast(t, s, l, least+1)))))
			}
			for i, f := range []int{f, just} {
				want[i].And(want[i], new(big.Int).SetUint64(math.MaxUint64))
				if n, e := s.Count(f); n != want[i].Uint64() || e != api.OK {
					t.Error(vars, least, n, e, want[i])
				}
				w, e := s.Pick(f)
				for v := range vars {
					if w[v] != (v >= vars-least) || e != api.OK {
						t.Fatal(vars, least, w, e)
					}
				}
			}
			if n, e := s.Size(f); n != least*(vars-least+1) || e != api.OK {
				t.Error(vars, least, n, e)
			}
			if n, e := s.Size(just); n != least*(vars-least+1)+vars-least || e != api.OK {
				t.Error(vars, least, n, e)
			}
		}
	}
}

// atLeast is that at least so many of some variables, the last ones first, are true.
func atLeast(t *testing.T, s *Store, l []int, least int) int {
	t.Helper()
	sums := make([]int, least+1) // by how many more must be
	sums[0] = 1
	for _, f := range turned(l) {
		for more := least; more > 0; more-- {
			sums[more] = must(t)(s.Ite(f, sums[more-1], sums[more]))
		}
	}
	return sums[least]
}

// P9.2: what is looked for is counted: what is told doesn't count, what is asked for does, made or not, and also where there is no room.
func TestWorks(t *testing.T) {
	s := made(t, 3, 6)
	was := uint64(0)
	rises := func(what string, rises bool) {
		t.Helper()
		now := s.Works()
		if now < was || (now > was) != rises {
			t.Error(what, was, now)
		}
		was = now
	}
	rises("new", false)
	l := first(t, s, 3)
	rises("made", true)
	first(t, s, 3)
	rises("found", true)
	f := must(t)(s.And(l[0], l[1]))
	rises("and", true)
	if g := must(t)(s.And(l[0], l[1])); g != f {
		t.Error(f, g)
	}
	rises("and found", true)
	if _, e := s.Or(l[0], l[2]); e != api.ErrBddFull {
		t.Error(e)
	}
	rises("full", true)
	s.Eval(f, []bool{true, true, true})
	s.Pick(f)
	s.Count(f)
	s.Size(f)
	s.Nodes()
	s.And(f, 99)
	s.Exists(f, []int{7})
	s.Var(3)
	rises("told", false)
}
