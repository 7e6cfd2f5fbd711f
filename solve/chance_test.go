package solve

import (
	"slices"
	"testing"

	"skua/api"
	"skua/term"
)

// P12.1, P12.2: terms made by chance, held against all ways in which their variables may be; P12.4: one solver, asked one thing behind the other.
func TestChance(t *testing.T) {
	asked, can := 0, 0
	for seed := range uint64(60) {
		g := newGrown(t, seed, []api.Type{u8, i8}[seed%2], 2, 1)
		for range 30 {
			for range 4 {
				g.grow()
			}
			l := g.some(5)
			want := g.ever(l...)
			g.holdCan(want, l...)
			asked++
			if want {
				can++
			}
		}
	}
	if can < asked/4 || can > asked*3/4 {
		t.Error(can, asked)
	}
}

// P12.1, P12.2: the same of two numbers of 8 bits.
func TestChanceOfTwo(t *testing.T) {
	for seed := range uint64(12) {
		g := newGrown(t, 100+seed, []api.Type{u8, i8}[seed%2], 0, 2)
		for range 30 {
			g.grow()
		}
		for range 6 {
			l := g.some(4)
			g.holdCan(g.ever(l...), l...)
		}
	}
}

// P12.1, P12.2: terms of all types: what the calls tell fits together, and those of a solver that was asked nothing ahead.
func TestChanceOfAll(t *testing.T) {
	can, no := 0, 0
	for seed := range uint64(48) {
		g := newGrown(t, 200+seed, allTypes[1+seed%8], 1, 2)
		for range 20 {
			g.grow()
		}
		for range 8 {
			l := g.some(4)
			const limit = 300
			_, ok, e := New(g.p).Can(limit, l...)
			if e != api.OK {
				continue
			}
			if ok {
				can++
			} else {
				no++
			}
			g.holdCan(ok, l...)
		}
	}
	if can < 50 || no < 50 {
		t.Error(can, no)
	}
}

// P12.2: Must is told of each term where others are true, just as all ways in which the variables may be say.
func TestMust(t *testing.T) {
	must, mustNot := 0, 0
	for seed := range uint64(30) {
		g := newGrown(t, 300+seed, u8, 2, 1)
		for range 40 {
			g.grow()
		}
		for range 20 {
			l, f := g.some(3), g.pick(truth)
			if !g.ever(l...) {
				continue
			}
			want := !g.ever(append(l, g.do("u!", f))...)
			if ok, e := g.s.Must(0, f, l...); ok != want || e != api.OK {
				t.Fatal(g.names(f), "where", g.names(l...), ok, e, want)
			}
			if want {
				must++
			} else {
				mustNot++
			}
		}
	}
	if must < 50 || mustNot < 50 {
		t.Error(must, mustNot)
	}
}

// P12.4: whatever was asked before, of whatever terms, come to its limit or not: what is plain is found out soon, and as if nothing had been.
func TestAskedBefore(t *testing.T) {
	m := newMade(t)
	var plain, heavy []int
	for i := range 6 {
		x := m.variable(u64, i)
		for j := range 6 {
			y := m.variable(u64, j)
			n := m.num(u64, uint64(1000*i+77*j))
			plain = append(plain, m.do("<", m.do("+", x, n), y), m.do("==", x, m.do("^", y, n)))
			if i < j {
				heavy = append(heavy, m.do("==", m.do("*", x, m.do("/", y, x)), n), m.do("<", m.do("*", x, m.do("*", y, y)), n), m.do("==", m.do("%", x, y), n))
			}
		}
	}
	lost := 0
	for i := range 6 {
		if _, e := m.can(40, heavy[7*i%len(heavy)], heavy[(11*i+5)%len(heavy)]); e != api.OK {
			lost++
		}
		for j := range 20 {
			l := []int{plain[(i+5*j)%len(plain)], plain[(3*i+j)%len(plain)], plain[(i*j+7)%len(plain)]}
			want, e := m.can(1000, l...)
			if e != api.OK {
				t.Fatal(m.names(l...), e)
			}
			if _, ok, e := New(m.p).Can(0, l...); ok != want || e != api.OK {
				t.Fatal(m.names(l...), ok, e, want)
			}
		}
	}
	if lost == 0 {
		t.Error("nothing was heavy")
	}
}

// P12.4: what is asked of the blaster from outside, and told there, is missing nowhere.
func TestPromoted(t *testing.T) {
	for seed := range uint64(40) {
		g := newGrown(t, 400+seed, u8, 2, 1)
		ahead := 1
		for range 20 {
			f := g.grow()
			switch g.r.IntN(4) {
			case 0:
				if bits, e := g.s.Bits(f); e != api.OK || len(bits) != g.p.Type(f).Width {
					t.Fatal(bits, e)
				}
			case 1:
				g.s.Bits(f)
				g.s.Fresh()
			case 2:
				g.s.Fresh()
			}
			if n := len(g.s.Clauses()); n < ahead {
				t.Fatal(n, ahead)
			} else {
				ahead = n
			}
			if g.r.IntN(3) == 0 {
				l := g.some(3)
				g.holdCan(g.ever(l...), l...)
			}
		}
	}
	m := newMade(t)
	m.s.Fresh()
	m.holdCan(false, m.num(truth, 0))
	m.holdCan(true, m.num(truth, 1))
}

// Rules: the same is answered each time that the same was asked; solvers of one pool know nothing of each other, and a term that is made later changes nothing.
func TestSame(t *testing.T) {
	g := newGrown(t, 500, i8, 2, 2)
	other, late := New(g.p), New(g.p)
	type answer struct {
		is         []api.Value
		core       []int
		can, no    bool
		must       bool
		e          [3]api.Errno
		asked, all int
	}
	ask := func(s *Solver, l []int) answer {
		var a answer
		a.is, a.can, a.e[0] = s.Can(50, l...)
		a.core, a.no, a.e[1] = s.Core(50, l...)
		a.must, a.e[2] = s.Must(50, l[0], l[1:]...)
		a.asked, a.all = s.Asked(), s.Conflicts()
		return a
	}
	same := func(a, b answer) bool {
		return slices.Equal(a.is, b.is) && slices.Equal(a.core, b.core) && a.can == b.can && a.no == b.no && a.must == b.must && a.e == b.e && a.asked == b.asked && a.all == b.all
	}
	var lists [][]int
	var answers []answer
	for range 60 {
		g.grow()
		l := append(g.some(3), g.pick(truth))
		a := ask(g.s, l)
		if b := ask(other, l); !same(a, b) {
			t.Fatal(g.names(l...), a, b)
		}
		lists, answers = append(lists, l), append(answers, a)
	}
	for i, l := range lists { // with all terms there from the beginning on
		if b := ask(late, l); !same(answers[i], b) {
			t.Fatal(g.names(l...), answers[i], b)
		}
	}
}

// P1: all calls with any numbers end, and answer nothing beside an error.
func TestAnything(t *testing.T) {
	g := newGrown(t, 600, u16, 2, 2)
	for range 60 {
		g.grow()
	}
	errors := map[api.Errno]int{}
	for range 3000 {
		var l []int
		for range g.r.IntN(4) {
			switch g.r.IntN(8) {
			case 0:
				l = append(l, int(g.r.Uint64()>>g.r.IntN(64)))
			case 1:
				l = append(l, g.r.IntN(2*g.p.Len())-g.p.Len()/2)
			default:
				l = append(l, g.pick(truth))
			}
		}
		limit := []int{20, 1, int(g.r.Uint64() | 1<<63), 5 + g.r.IntN(50)}[g.r.IntN(4)]
		if limit <= 0 {
			l = l[:min(len(l), 1)] // some of these take very many conflicts
		}
		is, ok, e := g.s.Can(limit, l...)
		c, no, e2 := g.s.Core(limit, l...)
		if (e != api.OK || !ok) && is != nil || e != api.OK && ok || (e2 != api.OK || !no) && c != nil || e2 != api.OK && no {
			t.Fatal(l, is, ok, e, c, no, e2)
		}
		if e == api.OK && e2 == api.OK && ok == no || e == api.ErrTermNode != (e2 == api.ErrTermNode) || e == api.ErrTermType != (e2 == api.ErrTermType) {
			t.Fatal(l, ok, e, no, e2)
		}
		errors[e]++
		if len(l) > 0 {
			if ok, e := g.s.Must(limit, l[0], l[1:]...); ok && e != api.OK {
				t.Fatal(l, ok, e)
			}
		}
	}
	if len(errors) < 3 || errors[api.OK] < 1000 || errors[api.ErrTermNode] < 100 || errors[api.ErrTermType] < 50 {
		t.Error(errors)
	}
}

// P1: a solver of a pool without terms, and one that is told no terms.
func TestEmpty(t *testing.T) {
	s := New(term.New())
	is, ok, e := s.Can(0)
	if len(is) != 0 || !ok || e != api.OK {
		t.Error(is, ok, e)
	}
	c, no, e := s.Core(0)
	if c != nil || no || e != api.OK {
		t.Error(c, no, e)
	}
	if ok, e := s.Must(0, 0); ok || e != api.ErrTermNode {
		t.Error(ok, e)
	}
	if s.Asked() != 2 || s.Conflicts() != 0 {
		t.Error(s.Asked(), s.Conflicts())
	}
}
