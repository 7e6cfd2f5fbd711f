package bdd

import (
	"math/rand/v2"
	"testing"

	"skua/api"
)

// pairs is that of each pair of variables both are the same.
func pairs(t *testing.T, s *Store, l [][2]int) int {
	t.Helper()
	f := 1
	for i := len(l) - 1; i >= 0; i-- {
		same := must(t)(s.Iff(must(t)(s.Var(l[i][0])), must(t)(s.Var(l[i][1]))))
		f = must(t)(s.And(same, f))
	}
	return f
}

// near is pairs of variables that stand side by side, far is pairs of one of the first half and one of the second.
func near(many int) [][2]int {
	var l [][2]int
	for i := range many {
		l = append(l, [2]int{2 * i, 2*i + 1})
	}
	return l
}

func far(many int) [][2]int {
	var l [][2]int
	for i := range many {
		l = append(l, [2]int{i, many + i})
	}
	return l
}

// between is how variables are called, so that pairs become others, and how they are called back.
func between(from, to [][2]int) ([]int, []int) {
	there, back := make([]int, 2*len(from)), make([]int, 2*len(from))
	for i := range from {
		for j := range 2 {
			there[from[i][j]] = to[i][j]
			back[to[i][j]] = from[i][j]
		}
	}
	return there, back
}

// P9.1, P9.3: what has few nodes in one order has many in another one; it is the same node, in whichever way it is come by.
func TestOrders(t *testing.T) {
	for _, many := range []int{1, 2, 3, 10, 14} {
		s := made(t, 2*many, 1<<20)
		side, apart := pairs(t, s, near(many)), pairs(t, s, far(many))
		there, back := between(near(many), far(many))
		if f := must(t)(s.Rename(side, there)); f != apart {
			t.Error(many, f, apart)
		}
		if f := must(t)(s.Rename(apart, back)); f != side {
			t.Error(many, f, side)
		}
		if n, e := s.Size(side); n != 3*many || e != api.OK {
			t.Error(many, n, e)
		}
		if n, e := s.Size(apart); n != 3<<many-3 || e != api.OK {
			t.Error(many, n, e)
		}
		for _, f := range []int{side, apart} {
			if n, e := s.Count(f); n != 1<<many || e != api.OK {
				t.Error(many, n, e)
			}
			var half, all []int
			for v := range 2 * many {
				all = append(all, v)
			}
			half = all[many:]
			if g := must(t)(s.Exists(f, all)); g != 1 {
				t.Error(many, g)
			}
			g := must(t)(s.Exists(f, half))
			if want := pairs(t, s, near(many/2)); f == apart && g != 1 || f == side && many%2 == 0 && g != want {
				t.Error(many, g, want)
			}
		}
	}
}

// P9.1: images under steps, as those above ask for them: what is true of a number, and of the number behind it.
func TestImages(t *testing.T) {
	const wide = 128
	s := made(t, 2*wide, 1<<16)
	l := first(t, s, 2*wide)
	carry, next := 1, 1 // the last bit stands last; now and next stand side by side
	for i := wide - 1; i >= 0; i-- {
		now, then := l[2*i], l[2*i+1]
		turns := must(t)(s.Iff(must(t)(s.Iff(now, carry)), must(t)(s.Not(then))))
		next = must(t)(s.And(next, turns))
		carry = must(t)(s.And(carry, now))
	}
	var ahead []int
	back, there := make([]int, 2*wide), make([]int, 2*wide)
	at := 1
	for i := range wide {
		ahead = append(ahead, 2*i)
		back[2*i], back[2*i+1] = 2*i+1, 2*i
		there[2*i], there[2*i+1] = 2*i, 2*i
		at = must(t)(s.And(at, must(t)(s.Not(l[2*i]))))
	}
	come := at
	for n := 1; n < 40; n++ {
		at = must(t)(s.Rename(must(t)(s.Exists(must(t)(s.And(at, next)), ahead)), there))
		come = must(t)(s.Or(come, at))
		w, e := s.Pick(at)
		if e != api.OK {
			t.Fatal(e)
		}
		for i := range wide {
			if bit := wide - 1 - i; w[2*i] != (bit < 10 && n>>bit&1 != 0) || w[2*i+1] {
				t.Fatal(n, w)
			}
		}
	}
	if f := must(t)(s.Rename(must(t)(s.Rename(come, back)), back)); f != come {
		t.Error(f, come)
	}
	if f := must(t)(s.Exists(next, ahead)); f != 1 {
		t.Error(f)
	}
	if n, e := s.Count(next); n != 0 || e != api.OK {
		t.Error(n, e)
	}
}

// said is an expression of variables: which of the calls, and of what.
type said struct {
	kind string
	v    int
	of   []said
}

// is is what it is in a way.
func (x said) is(w []bool) bool {
	switch x.kind {
	case "var":
		return w[x.v]
	case "not":
		return !x.of[0].is(w)
	case "and":
		return x.of[0].is(w) && x.of[1].is(w)
	case "or":
		return x.of[0].is(w) || x.of[1].is(w)
	case "iff":
		return x.of[0].is(w) == x.of[1].is(w)
	}
	if x.of[0].is(w) {
		return x.of[1].is(w)
	}
	return x.of[2].is(w)
}

// node is its diagram.
func (x said) node(t *testing.T, s *Store) int {
	t.Helper()
	var l []int
	for _, of := range x.of {
		l = append(l, of.node(t, s))
	}
	switch x.kind {
	case "var":
		return must(t)(s.Var(x.v))
	case "not":
		return must(t)(s.Not(l[0]))
	case "and":
		return must(t)(s.And(l[0], l[1]))
	case "or":
		return must(t)(s.Or(l[0], l[1]))
	case "iff":
		return must(t)(s.Iff(l[0], l[1]))
	}
	return must(t)(s.Ite(l[0], l[1], l[2]))
}

// turned is the same, said in another way: by what isn't.
func (x said) turned() said {
	not := func(x said) said { return said{kind: "not", of: []said{x}} }
	var l []said
	for _, of := range x.of {
		l = append(l, of.turned())
	}
	switch x.kind {
	case "and":
		return not(said{kind: "or", of: []said{not(l[1]), not(l[0])}})
	case "or":
		return not(said{kind: "and", of: []said{not(l[1]), not(l[0])}})
	case "iff":
		return said{kind: "ite", of: []said{l[1], l[0], not(l[0])}}
	case "ite":
		return said{kind: "or", of: []said{{kind: "and", of: []said{l[2], not(l[0])}}, {kind: "and", of: []said{l[1], l[0]}}}}
	}
	return said{x.kind, x.v, l}
}

// says is an expression by chance.
func says(r *rand.Rand, vars, deep int) said {
	if deep == 0 {
		return said{kind: "var", v: r.IntN(vars)}
	}
	kind := []string{"not", "and", "or", "iff", "ite"}[r.IntN(5)]
	x := said{kind: kind}
	for range map[string]int{"not": 1, "and": 2, "or": 2, "iff": 2, "ite": 3}[kind] {
		x.of = append(x.of, says(r, vars, deep-1))
	}
	return x
}

// P9.1, P9.2, P9.3: expressions of many variables: in ways by chance they are what they should be, the same in another way of saying it is the same node, and without its first way one is true in one way less, and first in a later one.
func TestManyVariables(t *testing.T) {
	r := rand.New(rand.NewPCG(9, 2))
	some := 0
	for range 300 {
		vars := 8 + r.IntN(249)
		s := made(t, vars, 1<<24)
		x := says(r, vars, 4)
		f := x.node(t, s)
		if g := x.turned().node(t, s); g != f {
			t.Fatal(x, f, g)
		}
		for range 200 {
			w := make([]bool, vars)
			for v := range w {
				w[v] = r.IntN(2) == 0
			}
			if is, e := s.Eval(f, w); is != x.is(w) || e != api.OK {
				t.Fatal(x, w, is, e)
			}
		}
		if f <= 1 {
			continue
		}
		some++
		w, e := s.Pick(f)
		if e != api.OK || !x.is(w) {
			t.Fatal(x, w, e)
		}
		at := 1
		for v := range vars {
			at = must(t)(s.And(at, must(t)(s.Iff(must(t)(s.Var(v)), end(w[v])))))
		}
		rest := must(t)(s.And(f, must(t)(s.Not(at)))) // without the first way
		n, _ := s.Count(f)
		m, _ := s.Count(rest)
		if n-m != 1 {
			t.Fatal(x, n, m)
		}
		if next, e := s.Pick(rest); e == api.OK && !behind(next, w) {
			t.Fatal(x, w, next)
		}
	}
	if some < 200 {
		t.Error(some)
	}
}

// end is the node of true or of false.
func end(is bool) int {
	if is {
		return 1
	}
	return 0
}

// behind is whether a way comes behind another one.
func behind(a, b []bool) bool {
	for i := range a {
		if a[i] != b[i] {
			return a[i]
		}
	}
	return false
}

// P9.1, P9.3: many nodes.
func TestManyNodes(t *testing.T) {
	const many = 16
	s := made(t, 2*many, 1<<24)
	f := pairs(t, s, far(many))
	if n, e := s.Size(f); n != 3<<many-3 || e != api.OK {
		t.Error(n, e)
	}
	not := must(t)(s.Not(f))
	if back := must(t)(s.Not(not)); back != f {
		t.Error(back)
	}
	if g := must(t)(s.Iff(f, not)); g != 0 {
		t.Error(g)
	}
	if n, e := s.Count(not); n != 1<<(2*many)-1<<many || e != api.OK {
		t.Error(n, e)
	}
}
