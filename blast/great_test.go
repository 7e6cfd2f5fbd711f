package blast

import (
	"testing"

	"skua/api"
)

// P11.1: terms that stand deep in one another.
func TestDeep(t *testing.T) {
	a := newAsked(t)
	v, w, c := a.variable(boolType), a.variable(boolType), a.variable(boolType)
	f := v
	for i := range 1 << 16 {
		switch i % 3 {
		case 0:
			f = a.do("^", f, w)
		case 1:
			f = a.do("ite", c, f, v)
		default:
			f = a.do("u!", a.do("==", f, c))
		}
	}
	bits := a.ask(f)
	a.askAll()
	s := a.solver()
	for n := range uint64(8) {
		l := []api.Value{{Var: 0, Type: boolType, Num: n & 1}, {Var: 1, Type: boolType, Num: n >> 1 & 1}, {Var: 2, Type: boolType, Num: n >> 2}}
		want, _ := a.p.Eval(f, l)
		var is []int
		for i, g := range []int{v, w, c} {
			is = append(is, told(a.bits[g], l[i].Num)...)
		}
		if got, e := s.Solve(0, is...); Value(bits, got.Model) != want || !got.Sat || e != api.OK {
			t.Error(n, want, got.Sat, e)
		}
	}
}

// P11.1: terms whose parts stand in them many times over take no more than each part once.
func TestShared(t *testing.T) {
	a := newAsked(t)
	f, v := a.variable(u8), a.variable(u8)
	for range 200 {
		f = a.do("+", a.do("^", f, v), a.do("&", f, a.do("u~", v)))
	}
	a.askAll(f)
	if a.b.Vars() > 200*5*8 {
		t.Error(a.b.Vars())
	}
	a.untold = true
	a.holds(way{0: 5, 1: 9}, way{0: 255, 1: 1}, way{})
}

// P11.1: as it is free which clauses there are, they are such that a search finds out soon what is plain.
func TestSoon(t *testing.T) {
	const soon = 3000 // conflicts
	for _, x := range allTypes[1:] {
		a := newAsked(t)
		v, w, ten := a.variable(x), a.variable(x), a.num(x, 10)
		both := func(f, g int) int { return a.do("&&", f, g) }
		above := func(f int) int { return a.do(">", f, a.num(x, 0)) }
		none := []int{
			both(above(w), a.do(">=", a.do("%", v, w), w)),
			a.do(">=", a.do("%", v, ten), ten),
			both(a.do("<", v, ten), a.do(">=", a.do("+", a.do("%", v, ten), a.num(x, 1)), a.num(x, 11))),
			a.do("!=", a.do("*", v, w), a.do("*", w, v)),
			a.do("!=", a.do("+", v, w), a.do("+", w, v)),
			a.do("!=", a.do("/", v, a.num(x, 1)), v),
		}
		for _, f := range none {
			if can, e := a.can(soon, f); can || e != api.OK {
				t.Error(a.p.Show(f), can, e)
			}
		}
		for _, f := range []int{a.do("==", a.do("*", v, a.num(x, 3)), a.num(x, 7)), a.do("==", a.do("%", v, ten), a.num(x, 7)), a.do("==", a.do("/", v, ten), a.num(x, 7))} {
			if can, e := a.can(soon, f); !can || e != api.OK {
				t.Error(a.p.Show(f), can, e)
			}
		}
	}
}

// P11.1: what a gate makes of literals is told once: a rest beside the quotient takes little more.
func TestToldOnce(t *testing.T) {
	for _, x := range []api.Type{u64, i64} {
		a := newAsked(t)
		v, w := a.variable(x), a.variable(x)
		a.ask(a.do("/", v, w))
		ahead := a.b.Vars()
		a.ask(a.do("%", v, w))
		if more := a.b.Vars() - ahead; more > 8*64 {
			t.Error(nameOf(x), ahead, more)
		}
	}
}

// P11.1: which clauses there are is free; where bits are only moved, or known, there are none.
func TestNoClauses(t *testing.T) {
	for _, x := range []api.Type{u8, u16, u32, u64} {
		a := newAsked(t)
		v, c, zero, eight := a.variable(x), a.variable(boolType), a.num(x, 0), a.num(x, 8)
		flag := a.made(a.p.Cast(x, c))
		for _, f := range []int{
			a.do("<<", v, eight), a.do(">>", v, eight), a.do("*", v, eight), a.do("/", v, eight), a.do("%", v, eight), a.do("&", v, eight), a.do("|", v, eight), a.do("^", v, eight),
			a.do("+", flag, eight), a.do("*", flag, eight), a.do("*", flag, flag), a.do("^", a.do("u~", v), v), a.do("&", v, a.do("u~", v)), a.do("|", v, a.do("u~", v)), a.do("==", flag, zero), a.do("<", flag, eight), a.do("ite", c, flag, eight), a.do("ite", c, v, v),
			a.do("+", v, v), a.do("-", a.do("<<", v, eight), a.do("<<", v, eight)), a.made(a.p.Cast(i64, v)), a.made(a.p.Cast(u8, v)), a.made(a.p.Cast(boolType, flag)),
		} {
			a.ask(f)
			if l := a.b.Clauses(); len(l) != 1 {
				t.Fatal(a.p.Show(f), len(l))
			}
		}
		a.holds(way{0: 1, 1: 1}, way{0: 255, 1: 0}, way{0: 16, 1: 1}, way{0: 129, 1: 0})
	}
}
