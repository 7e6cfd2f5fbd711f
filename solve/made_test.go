package solve

import (
	"math/rand/v2"
	"slices"
	"strconv"
	"testing"

	"skua/api"
	"skua/term"
)

var (
	u8       = api.Type{Width: 8}
	i8       = api.Type{Width: 8, Signed: true}
	u16      = api.Type{Width: 16}
	i16      = api.Type{Width: 16, Signed: true}
	u32      = api.Type{Width: 32}
	i32      = api.Type{Width: 32, Signed: true}
	u64      = api.Type{Width: 64}
	i64      = api.Type{Width: 64, Signed: true}
	allTypes = []api.Type{truth, u8, i8, u16, i16, u32, i32, u64, i64}
)

// made is a pool, and a solver of its terms.
type made struct {
	t *testing.T
	p *term.Pool
	s *Solver
}

func newMade(t *testing.T) *made {
	p := term.New()
	return &made{t, p, New(p)}
}

// right is a term that is told without an error.
func (m *made) right(f int, e api.Errno) int {
	m.t.Helper()
	if e != api.OK {
		m.t.Fatal(e)
	}
	return f
}

func (m *made) num(x api.Type, v uint64) int { return m.right(m.p.Num(x, v)) }

func (m *made) variable(x api.Type, v int) int { return m.right(m.p.Var(x, v)) }

func (m *made) do(op string, l ...int) int { return m.right(m.p.Do(op, l...)) }

func (m *made) cast(x api.Type, f int) int { return m.right(m.p.Cast(x, f)) }

func (m *made) all(l ...int) int { return m.right(m.p.All(l...)) }

// names is terms' texts.
func (m *made) names(l ...int) string {
	s := ""
	for _, f := range l {
		s += " " + strconv.Itoa(f)
		if m.p.Len() < 1000 {
			s += ":" + m.p.Show(f)
		}
	}
	return s
}

// can is whether terms can all be true; if so, where the solver says that they are, they are.
func (m *made) can(limit int, l ...int) (bool, api.Errno) {
	m.t.Helper()
	is, ok, e := m.s.Can(limit, l...)
	if !ok || e != api.OK {
		if len(is) != 0 || ok {
			m.t.Fatal(m.names(l...), is, ok, e)
		}
		return ok, e
	}
	told := slices.Clone(is)
	for i, v := range told {
		if v.Type.Width < 64 && v.Num>>v.Type.Width != 0 {
			m.t.Fatal(m.names(l...), is)
		}
		told[i].Num = 0
	}
	if !slices.Equal(told, m.p.Vars(l...)) {
		m.t.Fatal(m.names(l...), is, m.p.Vars(l...))
	}
	for _, f := range l {
		if v, e := m.p.Eval(f, is); v != 1 || e != api.OK {
			m.t.Fatal(m.names(l...), m.names(f), is, v, e)
		}
	}
	return true, api.OK
}

// holdCan holds whether terms can all be true against what is known, as a solver's three calls tell it.
func (m *made) holdCan(want bool, l ...int) {
	m.t.Helper()
	if ok, e := m.can(0, l...); ok != want || e != api.OK {
		m.t.Fatal(m.names(l...), ok, e, want)
	}
	core, no, e := m.s.Core(0, l...)
	if no == want || e != api.OK || want && len(core) != 0 {
		m.t.Fatal(m.names(l...), core, no, e, want)
	}
	if no {
		m.isCore(core, l...)
	}
	for i, f := range l {
		others := slices.Delete(slices.Clone(l), i, i+1)
		if ok, e := m.s.Must(0, m.do("u!", f), others...); ok == want || e != api.OK {
			m.t.Fatal(m.names(f), "where", m.names(others...), ok, e, want)
		}
	}
}

// isCore holds a core against what it must be: some of the terms, rising, each once, that can't all be true (as a solver tells that was asked nothing else).
func (m *made) isCore(core []int, l ...int) {
	m.t.Helper()
	for i, f := range core {
		if !slices.Contains(l, f) || i > 0 && core[i-1] >= f {
			m.t.Fatal(m.names(l...), "core", core)
		}
	}
	if _, ok, e := New(m.p).Can(0, core...); ok || e != api.OK {
		m.t.Fatal(m.names(l...), "core", core, ok, e)
	}
}

// value is a value of a type, by chance.
func value(r *rand.Rand, x api.Type) uint64 {
	half := uint64(1) << (x.Width - 1)
	switch r.IntN(4) {
	case 0:
		return r.Uint64N(4)
	case 1:
		return 2*half - 1 - r.Uint64N(2)
	case 2:
		return half - r.Uint64N(2)
	}
	return r.Uint64() >> (64 - x.Width) >> r.IntN(x.Width)
}

// grown is terms of bool and of one other type that are made by chance from one another.
type grown struct {
	*made
	r     *rand.Rand
	of    api.Type
	known map[api.Type][]int
	vars  []api.Value
}

// newGrown has so many variables of both types, and some numbers.
func newGrown(t *testing.T, seed uint64, x api.Type, flags, numbers int) *grown {
	g := &grown{made: newMade(t), r: rand.New(rand.NewPCG(12, seed)), of: x, known: map[api.Type][]int{}}
	for i := range flags + numbers {
		v := api.Value{Var: 2*i + 1, Type: truth}
		if i >= flags {
			v.Type = x
		}
		g.vars = append(g.vars, v)
		g.put(g.variable(v.Type, v.Var))
	}
	for range 3 {
		g.put(g.num(x, value(g.r, x)))
	}
	g.put(g.do("<", g.pick(x), g.pick(x)))
	return g
}

func (g *grown) put(f int) int {
	x := g.p.Type(f)
	g.known[x] = append(g.known[x], f)
	return f
}

func (g *grown) pick(x api.Type) int { return g.known[x][g.r.IntN(len(g.known[x]))] }

func (g *grown) op(l ...string) string { return l[g.r.IntN(len(l))] }

// grow makes one more term; that of a product, a quotient or a rest more seldom.
func (g *grown) grow() int {
	switch g.r.IntN(8) {
	case 0:
		return g.put(g.do(g.op("&&", "||", "^", "==", "!="), g.pick(truth), g.pick(truth)))
	case 1:
		return g.put(g.do("u!", g.pick(truth)))
	case 2:
		return g.put(g.do("ite", g.pick(truth), g.pick(g.of), g.pick(g.of)))
	case 3:
		return g.put(g.do(g.op("u-", "u~"), g.pick(g.of)))
	case 4:
		return g.put(g.do(g.op("+", "-", "&", "|", "^", "<<", ">>", "*", "/", "%"), g.pick(g.of), g.pick(g.of)))
	case 5:
		return g.put(g.do(g.op("+", "-", "^"), g.pick(g.of), g.pick(g.of)))
	}
	return g.put(g.do(g.op("==", "!=", "<", "<=", ">", ">="), g.pick(g.of), g.pick(g.of)))
}

// some is some terms of bool, by chance, perhaps one of them twice.
func (g *grown) some(most int) []int {
	var l []int
	for range g.r.IntN(most + 1) {
		l = append(l, g.pick(truth))
	}
	return l
}

// ever is whether terms can all be true: whether they are in one of all ways in which the variables may be.
func (g *grown) ever(l ...int) bool {
	all, is := g.all(l...), slices.Clone(g.vars)
	bits := 0
	for _, v := range is {
		bits += v.Type.Width
	}
	for n := range uint64(1) << bits {
		for i, v := range is {
			is[i].Num = n & (1<<v.Type.Width - 1)
			n >>= v.Type.Width
		}
		if v, e := g.p.Eval(all, is); v == 1 || e != api.OK {
			return true
		}
	}
	return false
}
