package bdd

import (
	"math"
	"math/rand/v2"
	"slices"
	"testing"

	"skua/api"
)

// P9.1: how many variables and how much room a store may have; what is wrong with both is told of the variables.
func TestNew(t *testing.T) {
	for _, x := range []struct {
		vars, room int
		want       api.Errno
	}{
		{0, 2, api.OK}, {1, 2, api.OK}, {256, 2, api.OK}, {0, 1 << 24, api.OK}, {256, 1 << 24, api.OK}, {7, 100, api.OK}, {255, 3, api.OK},
		{-1, 2, api.ErrBddVar}, {257, 2, api.ErrBddVar}, {math.MinInt, 100, api.ErrBddVar}, {math.MaxInt, 100, api.ErrBddVar}, {1 << 32, 100, api.ErrBddVar}, {1<<32 + 1, 100, api.ErrBddVar},
		{0, 1, api.ErrBddFull}, {3, 0, api.ErrBddFull}, {3, -1, api.ErrBddFull}, {256, 1<<24 + 1, api.ErrBddFull}, {3, math.MinInt, api.ErrBddFull}, {3, math.MaxInt, api.ErrBddFull}, {3, 1 << 32, api.ErrBddFull}, {3, 1<<32 + 2, api.ErrBddFull},
		{-1, 1, api.ErrBddVar}, {257, 1<<24 + 1, api.ErrBddVar}, {-5, -5, api.ErrBddVar},
	} {
		s, e := New(x.vars, x.room)
		if e != x.want || (s != nil) != (e == api.OK) {
			t.Errorf("%d, %d: %v, %d, want %d", x.vars, x.room, s, e, x.want)
		}
		if s != nil && (s.Nodes() != 2 || s.Works() != 0) {
			t.Error(x.vars, x.room, s.Nodes(), s.Works())
		}
	}
}

// P9.1: variables, the greatest one included, each of which is one node; and those that aren't there.
func TestVar(t *testing.T) {
	for _, vars := range []int{0, 1, 2, 3, 64, 255, 256} {
		s := made(t, vars, vars+2)
		var l []int
		for v := range vars {
			f := must(t)(s.Var(vars - 1 - v))
			if slices.Contains(l, f) || f < 2 || s.Nodes() != 3+v {
				t.Fatal(vars, v, f, s.Nodes())
			}
			l = append(l, f)
		}
		slices.Reverse(l)
		for v, f := range l {
			if g := must(t)(s.Var(v)); g != f {
				t.Error(vars, v, f, g)
			}
			is := make([]bool, vars)
			no, _ := s.Eval(f, is)
			is[v] = true
			yes, _ := s.Eval(f, is)
			for i := range is {
				is[i] = i != v
			}
			others, _ := s.Eval(f, is)
			if no || !yes || others {
				t.Error(vars, v, no, yes, others)
			}
		}
		for _, v := range noVars(vars) {
			if v >= 0 && v < vars {
				continue
			}
			if f, e := s.Var(v); f != 0 || e != api.ErrBddVar {
				t.Error(vars, v, f, e)
			}
		}
		if s.Nodes() != vars+2 {
			t.Error(vars, s.Nodes())
		}
	}
}

// P9.1, P9.2, P9.3: the chapter's examples.
func TestExamples(t *testing.T) {
	s := made(t, 2, 100)
	l := first(t, s, 2)
	a, b := l[0], l[1]
	and := must(t)(s.And(a, b))
	if a != 2 || b != 3 || and != 4 {
		t.Error(a, b, and)
	}
	not := must(t)(s.Not(and))
	if back := must(t)(s.Not(not)); back != and || not == and {
		t.Error(back, not)
	}
	or := must(t)(s.Or(a, b))
	if n, e := s.Count(or); n != 3 || e != api.OK {
		t.Error(n, e)
	}
	if w, e := s.Pick(or); !slices.Equal(w, []bool{false, true}) || e != api.OK {
		t.Error(w, e)
	}
	if f, e := s.Exists(and, []int{0}); f != b || e != api.OK {
		t.Error(f, e)
	}
}

// P9.1: what each call answers of false, true and a variable.
func TestEnds(t *testing.T) {
	s := made(t, 2, 100)
	a := must(t)(s.Var(1))
	not := must(t)(s.Not(a))
	for _, x := range []struct {
		f, g                    int
		not, and, or, iff, some int
	}{
		{0, 0, 1, 0, 0, 1, 0}, {0, 1, 1, 0, 1, 0, 0}, {1, 0, 0, 0, 1, 0, 1}, {1, 1, 0, 1, 1, 1, 1},
		{a, 0, not, 0, a, not, 1}, {a, 1, not, a, 1, a, 1}, {0, a, 1, 0, a, not, 0}, {1, a, 0, a, 1, a, 1},
		{a, a, not, a, a, 1, 1}, {a, not, not, 0, 1, 0, 1}, {not, a, a, 0, 1, 0, 1}, {not, not, a, not, not, 1, 1},
	} {
		got := []int{must(t)(s.Not(x.f)), must(t)(s.And(x.f, x.g)), must(t)(s.Or(x.f, x.g)), must(t)(s.Iff(x.f, x.g)), must(t)(s.Exists(x.f, []int{1}))}
		if !slices.Equal(got, []int{x.not, x.and, x.or, x.iff, x.some}) {
			t.Errorf("%d, %d: %v", x.f, x.g, got)
		}
		for _, same := range [][3]int{{1, x.f, x.g}, {0, x.g, x.f}, {x.g, x.f, x.f}, {x.f, 1, 0}} {
			if f := must(t)(s.Ite(same[0], same[1], same[2])); f != x.f {
				t.Error(same, f)
			}
		}
	}
	if s.Nodes() != 4 {
		t.Error(s.Nodes())
	}
}

// P9.1: a node that isn't there, wherever it is handed in, is told ahead of all else.
func TestNoNode(t *testing.T) {
	s := made(t, 3, 6)
	l := first(t, s, 3)
	refused := func(what string, n int, e api.Errno) {
		t.Helper()
		if n != 0 || e != api.ErrBddNode {
			t.Errorf("%s: %d, %d", what, n, e)
		}
	}
	must(t)(s.And(l[1], l[2]))
	for _, no := range noNodes(s) {
		for i := range 3 {
			at := []int{l[0], l[1], l[2]}
			at[i] = no
			n, e := s.Ite(at[0], at[1], at[2])
			refused("ite", n, e)
			if i > 1 {
				continue
			}
			n, e = s.And(at[0], at[1])
			refused("and", n, e)
			n, e = s.Or(at[0], at[1])
			refused("or", n, e)
			n, e = s.Iff(at[0], at[1])
			refused("iff", n, e)
		}
		for _, at := range []int{0, 1, no} { // as far as what is known settles it
			n, e := s.And(at, no)
			refused("and", n, e)
			n, e = s.Or(no, at)
			refused("or", n, e)
			n, e = s.Iff(no, at)
			refused("iff", n, e)
			n, e = s.Ite(at, no, no)
			refused("ite", n, e)
			n, e = s.Ite(1, at, no)
			refused("ite", n, e)
			n, e = s.Ite(0, no, at)
			refused("ite", n, e)
		}
		n, e := s.Not(no)
		refused("not", n, e)
		for _, vars := range [][]int{nil, {0}, {3}, {-1}, {0, 1, 2, 3}} {
			n, e = s.Exists(no, vars)
			refused("exists", n, e)
		}
		for _, to := range [][]int{nil, {0, 1, 2}, {0, 0, 0}, {0, 1}, {3, 3, 3}} {
			n, e = s.Rename(no, to)
			refused("rename", n, e)
		}
	}
	if s.Nodes() != 6 {
		t.Error(s.Nodes())
	}
}

// P9.1: variables that aren't there, and names that aren't as Rename has them; room doesn't matter then.
func TestNoVar(t *testing.T) {
	s := made(t, 3, 6)
	l := first(t, s, 3)
	f := must(t)(s.And(l[0], l[2]))
	refused := func(vars []int, n int, e api.Errno) {
		t.Helper()
		if n != 0 || e != api.ErrBddVar {
			t.Errorf("%v: %d, %d", vars, n, e)
		}
	}
	for _, at := range []int{0, 1, l[0], f} {
		for _, no := range noVars(3) {
			for _, vars := range [][]int{{no}, {0, no}, {no, 1}, {2, 1, 0, no, 0}} {
				n, e := s.Exists(at, vars)
				refused(vars, n, e)
			}
			for i := range 3 {
				to := []int{0, 1, 2}
				to[i] = no
				n, e := s.Rename(at, to)
				refused(to, n, e)
			}
		}
		for _, to := range [][]int{nil, {}, {0}, {0, 1}, {0, 1, 2, 0}, {0, 1, 2, 3}} {
			n, e := s.Rename(at, to)
			refused(to, n, e)
		}
	}
	for _, to := range [][]int{{0, 0, 0}, {1, 0, 1}, {2, 0, 2}, {2, 1, 2}} {
		n, e := s.Rename(f, to)
		refused(to, n, e)
	}
	for _, x := range []struct {
		f    int
		to   []int
		want int
	}{{0, []int{1, 1, 1}, 0}, {1, []int{2, 2, 2}, 1}, {l[0], []int{1, 1, 1}, l[1]}, {l[2], []int{0, 0, 1}, l[1]}, {f, []int{0, 0, 2}, f}, {f, []int{0, 2, 2}, f}, {f, []int{2, 0, 0}, f}} {
		if n, e := s.Rename(x.f, x.to); n != x.want || e != api.OK {
			t.Error(x, n, e)
		}
	}
	none := made(t, 0, 2)
	for f := range 2 {
		if n, e := none.Exists(f, nil); n != f || e != api.OK {
			t.Error(n, e)
		}
		if n, e := none.Rename(f, []int{}); n != f || e != api.OK {
			t.Error(n, e)
		}
		for _, l := range [][]int{{0}, {-1}} {
			n, e := none.Exists(f, l)
			refused(l, n, e)
			n, e = none.Rename(f, l)
			refused(l, n, e)
		}
	}
}

// P9.1, P9.2, P9.3: calls made by chance, of few variables and with more or less room, against what is true where; a call is refused just where what it would tell has more nodes than there is room for.
func TestAsTold(t *testing.T) {
	r := rand.New(rand.NewPCG(9, 1))
	kinds := map[string]int{}
	for range 3000 {
		vars := r.IntN(7)
		room := 2 + r.IntN(10*vars+1)
		if r.IntN(3) == 0 {
			room = 1 << 16
		}
		s := made(t, vars, room)
		w := watch{s: s, vars: vars, room: room, met: map[string]bool{}, known: []side{{0, truth(vars, no)}, {1, truth(vars, yes)}}}
		for v := range vars {
			n, e := s.Var(v)
			w.see(t, step{kind: "var", node: n, e: e, want: truth(vars, func(w []bool) bool { return w[v] })}, kinds)
		}
		for range 60 {
			w.see(t, stepped(r, s, vars, w.known), kinds)
		}
		w.look(t)
	}
	for _, kind := range []string{"not", "and", "or", "iff", "ite", "var", "exists", "rename", "twice"} {
		if kinds[kind] < 300 || kinds[kind+" full"] < 100 && kind != "twice" {
			t.Error(kind, kinds)
		}
	}
}

func no([]bool) bool  { return false }
func yes([]bool) bool { return true }

// watch is a store, and what it should know.
type watch struct {
	s          *Store
	vars, room int
	met        map[string]bool // the parts of all diagrams that were told
	known      []side
	works      uint64
}

// see holds a call against what it should answer.
func (w *watch) see(t *testing.T, x step, kinds map[string]int) {
	t.Helper()
	nodes := 2 + len(w.met)
	if w.s.Works() < w.works {
		t.Fatal("works go down")
	}
	w.works = w.s.Works()
	if x.no {
		kinds[x.kind]++
		if x.node != 0 || x.e != api.ErrBddVar || w.s.Nodes() != nodes {
			t.Fatal(x, w.s.Nodes(), nodes)
		}
		return
	}
	more := map[string]bool{}
	parts(x.want, more)
	for part := range more {
		if w.met[part] {
			delete(more, part)
		}
	}
	if nodes+len(more) > w.room {
		kinds[x.kind+" full"]++
		if x.node != 0 || x.e != api.ErrBddFull || w.s.Nodes() < nodes || w.s.Nodes() > w.room {
			t.Fatal(x, w.s.Nodes(), nodes, w.room)
		}
		return
	}
	kinds[x.kind]++
	for part := range more {
		w.met[part] = true
	}
	if x.e != api.OK || w.s.Nodes() != 2+len(w.met) || told(t, w.s, x.node, w.vars) != x.want {
		t.Fatal(x, w.s.Nodes(), 2+len(w.met), w.room)
	}
	isNew := true
	for _, k := range w.known {
		if (k.node == x.node) != (k.truth == x.want) {
			t.Fatal(x, k)
		}
		isNew = isNew && k.node != x.node
	}
	if isNew {
		w.known = append(w.known, side{x.node, x.want})
	}
}

// look holds what the store tells of each diagram against what it should.
func (w *watch) look(t *testing.T) {
	t.Helper()
	for _, k := range w.known {
		pick, e := w.s.Pick(k.node)
		if at := slices.Index([]byte(k.truth), '1'); at < 0 {
			if pick != nil || e != api.ErrBddNode {
				t.Fatal(k, pick, e)
			}
		} else if !slices.Equal(pick, way(w.vars, at)) || e != api.OK {
			t.Fatal(k, pick, e)
		}
		many := 0
		for _, is := range k.truth {
			many += int(is - '0')
		}
		if n, e := w.s.Count(k.node); n != uint64(many) || e != api.OK {
			t.Fatal(k, n, e)
		}
		met := map[string]bool{}
		parts(k.truth, met)
		if n, e := w.s.Size(k.node); n != len(met) || e != api.OK {
			t.Fatal(k, n, e)
		}
		if told(t, w.s, k.node, w.vars) != k.truth {
			t.Fatal(k)
		}
	}
	if w.s.Nodes() != 2+len(w.met) || w.s.Works() != w.works {
		t.Fatal(w.s.Nodes(), len(w.met), w.s.Works(), w.works)
	}
}
