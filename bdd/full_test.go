package bdd

import (
	"testing"

	"skua/api"
)

// refuses is whether a call is refused for room, and leaves a store as it was.
func refuses(t *testing.T, s *Store, call func() (int, api.Errno)) {
	t.Helper()
	nodes := s.Nodes()
	for range 2 {
		if f, e := call(); f != 0 || e != api.ErrBddFull || s.Nodes() != nodes {
			t.Error(f, e, s.Nodes(), nodes)
		}
	}
}

// P9.1: no node more than there is room for; what needs none is answered even so.
func TestFull(t *testing.T) {
	s := made(t, 3, 4)
	a, b := must(t)(s.Var(0)), must(t)(s.Var(1))
	refuses(t, s, func() (int, api.Errno) { return s.Var(2) })
	refuses(t, s, func() (int, api.Errno) { return s.Not(a) })
	refuses(t, s, func() (int, api.Errno) { return s.And(a, b) })
	refuses(t, s, func() (int, api.Errno) { return s.Or(a, b) })
	refuses(t, s, func() (int, api.Errno) { return s.Iff(a, b) })
	refuses(t, s, func() (int, api.Errno) { return s.Iff(b, 0) })
	refuses(t, s, func() (int, api.Errno) { return s.Ite(a, b, 1) })
	refuses(t, s, func() (int, api.Errno) { return s.Rename(a, []int{2, 1, 0}) })
	for _, x := range [][3]int{{1, a, b}, {0, a, b}, {a, 1, 0}, {a, b, b}, {b, b, 0}, {b, 1, b}} {
		if _, e := s.Ite(x[0], x[1], x[2]); e != api.OK {
			t.Error(x, e)
		}
	}
	if f, e := s.Rename(a, []int{1, 0, 2}); f != b || e != api.OK {
		t.Error(f, e)
	}
	if f, e := s.Exists(a, []int{0, 1, 2}); f != 1 || e != api.OK {
		t.Error(f, e)
	}
	if f, e := s.Var(1); f != b || e != api.OK || s.Nodes() != 4 {
		t.Error(f, e, s.Nodes())
	}
	for _, vars := range []int{1, 256} {
		least := made(t, vars, 2)
		refuses(t, least, func() (int, api.Errno) { return least.Var(vars - 1) })
		if f, e := least.Ite(1, 0, 1); f != 0 || e != api.OK {
			t.Error(f, e)
		}
	}
}

// P9.1: as much room as a diagram needs, and one less, for each call that makes many nodes.
func TestJustFull(t *testing.T) {
	const many = 8
	side, apart := near(many), far(many)
	there, _ := between(side, apart)
	build := func(room int) (*Store, int) {
		s := made(t, 2*many, room)
		first(t, s, 2*many)
		return s, pairs(t, s, side)
	}
	s, f := build(1 << 20)
	had := s.Nodes()
	for _, call := range []func(s *Store, f int) (int, api.Errno){
		func(s *Store, f int) (int, api.Errno) { return s.Not(f) },
		func(s *Store, f int) (int, api.Errno) { return s.Rename(f, there) },
		func(s *Store, f int) (int, api.Errno) { return s.Exists(f, []int{1, 2, 6}) },
		func(s *Store, f int) (int, api.Errno) { return s.Iff(f, 15) },
		func(s *Store, f int) (int, api.Errno) { return s.Ite(f, 17, 3) },
		func(s *Store, f int) (int, api.Errno) { return s.Or(f, 12) },
		func(s *Store, f int) (int, api.Errno) { return s.And(f, 5) },
	} {
		s, f = build(1 << 20)
		g := must(t)(call(s, f))
		want, more := told(t, s, g, 2*many), s.Nodes()
		if more < had+2 {
			t.Fatal(more, had)
		}
		s, f = build(more)
		g = must(t)(call(s, f))
		if told(t, s, g, 2*many) != want || s.Nodes() != more {
			t.Error(s.Nodes(), more)
		}
		s, f = build(more - 1)
		refuses(t, s, func() (int, api.Errno) { return call(s, f) })
	}
}

// P9.1: what is only met on the way takes no room: three diagrams, of which one always is true, chosen by two variables; and pairs that stand far from one another, called so that they stand side by side.
func TestOnTheWay(t *testing.T) {
	build := func(room int) (*Store, int) {
		s := made(t, 4, room)
		l := first(t, s, 4)
		neither := must(t)(s.Not(must(t)(s.Or(l[2], l[3]))))
		return s, must(t)(s.Ite(l[0], l[2], must(t)(s.Ite(l[1], l[3], neither))))
	}
	s, f := build(1000)
	had := s.Nodes()
	s, f = build(had)
	if g := must(t)(s.Exists(f, []int{1, 0, 1})); g != 1 || s.Nodes() != had {
		t.Error(g, s.Nodes(), had)
	}
	const many = 8
	_, there := between(near(many), far(many))
	s = made(t, 2*many, 1<<20)
	had = 3*many + must(t)(s.Size(pairs(t, s, far(many)))) + s.Nodes()
	s = made(t, 2*many, had)
	f = pairs(t, s, far(many))
	had = s.Nodes()
	g := must(t)(s.Rename(f, there))
	if n, e := s.Size(g); n != 3*many || e != api.OK || s.Nodes() > had+3*many {
		t.Error(n, e, s.Nodes(), had)
	}
}

// P9.1: what would have more nodes than anything has room for is refused, and soon.
func TestTooMany(t *testing.T) {
	const many = 128
	for _, room := range []int{1000, 100000} {
		s := made(t, 2*many, room)
		f := pairs(t, s, near(many))
		there, _ := between(near(many), far(many))
		refuses(t, s, func() (int, api.Errno) { return s.Rename(f, there) })
		if n, e := s.Size(f); n != 3*many || e != api.OK {
			t.Error(n, e)
		}
		g := 1
		e := api.OK
		for i := many - 1; i >= 0 && e == api.OK; i-- {
			a, _ := s.Var(i)
			b, _ := s.Var(many + i)
			var same int
			if same, e = s.Iff(a, b); e == api.OK {
				g, e = s.And(g, same)
			}
		}
		if g != 0 || e != api.ErrBddFull || s.Nodes() > room || s.Nodes() < room/4 {
			t.Error(g, e, s.Nodes())
		}
		for v := range 2 * many {
			if g, e := s.Exists(f, []int{v}); e == api.OK && g <= 1 || e != api.OK && (e != api.ErrBddFull || g != 0) {
				t.Error(g, e)
			}
		}
	}
}

// P9.1: some variables being somehow, what is left may have more nodes than anything has room for.
func TestTooManyLeft(t *testing.T) {
	const many = 120
	s := made(t, 7+2*many, 5000)
	l := first(t, s, 7+2*many)
	f := 0
	for i := range many {
		f = must(t)(s.Ite(pattern(t, s, l[:7], i), must(t)(s.And(l[7+i], l[7+many+i])), f))
	}
	nodes := s.Nodes()
	refuses(t, s, func() (int, api.Errno) { return s.Exists(f, []int{0, 1, 2, 3, 4, 5, 6}) })
	refuses(t, s, func() (int, api.Errno) { return s.Exists(f, []int{6, 5, 4, 3, 2, 1, 0, 6}) })
	if s.Nodes() != nodes {
		t.Error(s.Nodes(), nodes)
	}
	if g := must(t)(s.Exists(f, []int{7, 8})); g < 2 {
		t.Error(g)
	}
}

// pattern is that variables are as a number's bits.
func pattern(t *testing.T, s *Store, l []int, n int) int {
	t.Helper()
	f := 1
	for i := len(l) - 1; i >= 0; i-- {
		bit := l[i]
		if n>>i&1 == 0 {
			bit = must(t)(s.Not(bit))
		}
		f = must(t)(s.And(bit, f))
	}
	return f
}

// P9.1: two diagrams that have few nodes beside what both have together: that there is no room is told before all of it is looked at.
func TestTooManyTogether(t *testing.T) {
	const many = 10
	s := made(t, 4*many, 1<<14)
	var a, b [][2]int
	for i := range many {
		a = append(a, [2]int{2 * i, 2*many + 2*i})
		b = append(b, [2]int{2*i + 1, 2*many + 2*i + 1})
	}
	f, g := pairs(t, s, a), pairs(t, s, b)
	was := s.Works()
	refuses(t, s, func() (int, api.Errno) { return s.And(f, g) })
	refuses(t, s, func() (int, api.Errno) { return s.Iff(f, g) })
	refuses(t, s, func() (int, api.Errno) { return s.Or(g, f) })
	if works := s.Works() - was; works > 6<<17 {
		t.Error(works)
	}
}
