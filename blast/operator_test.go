package blast

import (
	"math/rand/v2"
	"slices"
	"testing"

	"skua/api"
)

// pairs is ways of two variables of types: some around the edges, and some by chance.
func pairs(r *rand.Rand, x, y api.Type, step int) []way {
	var l []way
	for i, v := range edges(x) {
		for j, w := range edges(y) {
			if (i+j)%step == 0 {
				l = append(l, way{0: v, 1: w})
			}
		}
	}
	for range 30 {
		l = append(l, way{0: value(r, x), 1: value(r, y)})
	}
	return l
}

// byType runs a test for each type.
func byType(t *testing.T, test func(t *testing.T, r *rand.Rand, x api.Type)) {
	for i, x := range allTypes {
		t.Run(nameOf(x), func(t *testing.T) {
			t.Parallel()
			test(t, rand.New(rand.NewPCG(11, uint64(i))), x)
		})
	}
}

// P11.1: what an operator makes of two variables, and of one and itself.
func TestPairs(t *testing.T) {
	byType(t, func(t *testing.T, r *rand.Rand, x api.Type) {
		for _, op := range pairOps(x) {
			a := newAsked(t)
			v, w := a.variable(x), a.variable(x)
			a.askAll(a.do(op, v, w), a.do(op, w, v), a.do(op, v, v))
			a.holds(pairs(r, x, x, 1)...)
		}
	})
}

// P11.1: of a variable and a number, either way round.
func TestNumberBeside(t *testing.T) {
	byType(t, func(t *testing.T, r *rand.Rand, x api.Type) {
		for _, op := range pairOps(x) {
			for _, n := range edges(x) {
				a := newAsked(t)
				v := a.variable(x)
				a.askAll(a.do(op, v, a.num(x, n)), a.do(op, a.num(x, n), v))
				var ways []way
				for _, m := range edges(x) {
					ways = append(ways, way{0: m})
				}
				a.holds(append(ways, a.chances(r, 8)...)...)
			}
		}
	})
}

// P11.1: all numbers of 8 bits, by each of some.
func TestAllBytes(t *testing.T) {
	for _, x := range []api.Type{u8, i8} {
		for _, op := range pairOps(x) {
			t.Run(nameOf(x)+op, func(t *testing.T) {
				t.Parallel()
				a := newAsked(t)
				a.askAll(a.do(op, a.variable(x), a.variable(x)))
				var ways []way
				for n := range uint64(256) {
					for _, m := range []uint64{0, 1, 3, 7, 8, 100, 128, 253, 255} {
						ways = append(ways, way{0: n, 1: m})
					}
				}
				a.holds(ways...)
			})
		}
	}
}

// P11.1: of one term, and of one of three.
func TestTurnsAndChoices(t *testing.T) {
	byType(t, func(t *testing.T, r *rand.Rand, x api.Type) {
		a := newAsked(t)
		v, w := a.variable(x), a.variable(x)
		c := a.variable(boolType)
		for _, op := range oneOps(x) {
			a.ask(a.do(op, v))
		}
		for _, l := range [][]int{{c, v, w}, {c, w, v}, {c, v, a.num(x, 1)}, {c, a.num(x, 0), w}, {a.do("u!", c), v, w}, {a.do("==", v, w), v, w}, {c, v, a.do(oneOps(x)[0], v)}, {c, a.num(x, 0), a.num(x, 1)}} {
			a.ask(a.do("ite", l...))
		}
		var ways []way
		for _, l := range pairs(r, x, x, 2) {
			for flag := range uint64(2) {
				ways = append(ways, way{0: l[0], 1: l[1], 2: flag})
			}
		}
		a.holds(ways...)
	})
}

// P11.1: of bool, with itself in all places.
func TestFlagChoices(t *testing.T) {
	a := newAsked(t)
	v, w, c := a.variable(boolType), a.variable(boolType), a.variable(boolType)
	l := []int{v, w, c, a.do("u!", v), a.do("u!", w), a.do("u!", c), a.num(boolType, 0), a.num(boolType, 1)}
	var ways []way
	for n := range uint64(8) {
		ways = append(ways, way{0: n & 1, 1: n >> 1 & 1, 2: n >> 2})
	}
	for _, f := range l {
		for _, g := range l {
			for _, h := range l {
				a.ask(a.do("ite", f, g, h))
			}
			for _, op := range pairOps(boolType) {
				a.ask(a.do(op, f, g))
			}
		}
	}
	a.holds(ways...)
}

// P11.1: casts from and to all types.
func TestCasts(t *testing.T) {
	byType(t, func(t *testing.T, r *rand.Rand, x api.Type) {
		a := newAsked(t)
		v := a.variable(x)
		for _, to := range allTypes {
			f := a.made(a.p.Cast(to, v))
			a.ask(f)
			for _, back := range allTypes {
				a.ask(a.made(a.p.Cast(back, f)))
			}
			if to != boolType {
				a.ask(a.made(a.p.Cast(u64, a.do("+", f, a.num(to, 1)))))
			}
		}
		var ways []way
		for _, n := range edges(x) {
			ways = append(ways, way{0: n})
		}
		a.holds(append(ways, a.chances(r, 20)...)...)
	})
}

// P11.1: numbers that are turned, moved and put together, so that bits of one literal meet.
func TestAlikeBits(t *testing.T) {
	byType(t, func(t *testing.T, r *rand.Rand, x api.Type) {
		if x == boolType {
			return
		}
		for _, op := range pairOps(x) {
			a := newAsked(t)
			v, c := a.variable(x), a.variable(boolType)
			flag := a.made(a.p.Cast(x, c))
			l := []int{v, a.do("u~", v), a.do("<<", v, a.num(x, 1)), a.do(">>", v, a.num(x, 1)), flag, a.do("-", a.num(x, 0), flag)}
			if x.Width > 16 && slices.Contains([]string{"*", "/", "%"}, op) {
				l = l[1:4] // what is told of the others takes long
			}
			for _, f := range l {
				for _, g := range l {
					a.ask(a.do(op, f, g))
				}
			}
			a.holds(append(a.chances(r, 6), way{0: 0, 1: 1}, way{0: 1, 1: 0}, way{0: 1 << (x.Width - 1), 1: 1})...)
		}
	})
}
