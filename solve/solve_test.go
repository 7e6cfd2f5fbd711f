package solve

import (
	"math"
	"slices"
	"testing"

	"skua/api"
)

// The chapter's examples.
func TestExamples(t *testing.T) {
	m := newMade(t)
	x := m.variable(u8, 0)
	is, ok, e := m.s.Can(0, m.do("==", m.do("*", x, m.num(u8, 3)), m.num(u8, 7)))
	if !slices.Equal(is, []api.Value{{Var: 0, Type: u8, Num: 173}}) || !ok || e != api.OK {
		t.Error(is, ok, e)
	}
	five := m.num(u8, 5)
	is, ok, e = m.s.Can(0, m.do("<", x, five), m.do(">", x, five))
	if is != nil || ok || e != api.OK {
		t.Error(is, ok, e)
	}
	if ok, e := m.s.Must(0, m.do("!=", x, m.num(u8, 9)), m.do("<", x, five)); !ok || e != api.OK {
		t.Error(ok, e)
	}
}

// P12.1, P12.2: no terms, numbers, and a variable alone.
func TestPlain(t *testing.T) {
	m := newMade(t)
	yes, no, v := m.num(truth, 1), m.num(truth, 0), m.variable(truth, 7)
	not := m.do("u!", v)
	for _, x := range []struct {
		want bool
		l    []int
	}{
		{true, nil}, {true, []int{}}, {true, []int{yes}}, {true, []int{yes, yes}}, {false, []int{no}}, {false, []int{no, no}}, {false, []int{yes, no}}, {false, []int{no, v}},
		{true, []int{v}}, {true, []int{not}}, {true, []int{v, v}}, {true, []int{yes, not, not}}, {false, []int{v, not}}, {false, []int{not, yes, v, v}},
	} {
		for range 3 {
			m.holdCan(x.want, x.l...)
		}
	}
	for _, x := range []struct {
		want bool
		f    int
		l    []int
	}{
		{true, yes, nil}, {false, no, nil}, {false, v, nil}, {false, not, nil}, {true, v, []int{v}}, {false, v, []int{not}}, {true, not, []int{not, yes}}, {false, no, []int{v}}, {true, no, []int{v, not}}, {true, v, []int{no}}, {true, no, []int{no}}, {false, no, []int{yes}}, {true, yes, []int{not}},
	} {
		if ok, e := m.s.Must(0, x.f, x.l...); ok != x.want || e != api.OK {
			t.Error(m.names(x.f), "where", m.names(x.l...), ok, e)
		}
	}
	is, ok, e := m.s.Can(0, not)
	if !slices.Equal(is, []api.Value{{Var: 7, Type: truth, Num: 0}}) || !ok || e != api.OK {
		t.Error(is, ok, e)
	}
	is, ok, e = m.s.Can(0, v)
	if !slices.Equal(is, []api.Value{{Var: 7, Type: truth, Num: 1}}) || !ok || e != api.OK {
		t.Error(is, ok, e)
	}
}

// P12.1: values of all variables of the terms, and of no others, rising, with their types; also of those on which nothing hangs, and of those that a term only has deep inside.
func TestValues(t *testing.T) {
	m := newMade(t)
	var vars []int
	for i, x := range allTypes {
		vars = append(vars, m.variable(x, 100-10*i))
	}
	const most = math.MaxInt
	far := m.variable(i16, most)
	m.holdCan(true, m.do("==", vars[1], m.num(u8, 77)))
	for i, x := range allTypes[1:] {
		for _, n := range []uint64{0, 1, 2, 77, 1<<x.Width - 1, 1 << (x.Width - 1), 1<<(x.Width-1) - 1} {
			is, ok, e := m.s.Can(0, m.do("==", vars[i+1], m.num(x, n)))
			if !slices.Equal(is, []api.Value{{Var: 90 - 10*i, Type: x, Num: n}}) || !ok || e != api.OK {
				t.Error(x, n, is, ok, e)
			}
		}
	}
	is, ok, e := m.s.Can(0, m.do("==", far, m.num(i16, 40000)), m.do("==", vars[2], m.num(i8, 200)), vars[0], m.do("==", vars[8], m.num(i64, 1<<63+5)))
	want := []api.Value{{Var: 20, Type: i64, Num: 1<<63 + 5}, {Var: 80, Type: i8, Num: 200}, {Var: 100, Type: truth, Num: 1}, {Var: most, Type: i16, Num: 40000}}
	if !slices.Equal(is, want) || !ok || e != api.OK {
		t.Error(is, ok, e)
	}
	// Where a product by an even number is even, only one bit is looked at, or none.
	even := m.do("==", m.do("&", m.do("*", vars[5], m.num(u32, 4)), m.num(u32, 3)), m.num(u32, 0))
	m.holdCan(true, even, m.do("||", vars[0], m.do("<", far, far)))
	m.holdCan(true, m.do("==", m.do("ite", vars[0], vars[7], m.do("+", vars[7], m.num(u64, 1))), m.num(u64, 9)))
}

// P12.1, P12.2: what is true of numbers of all types.
func TestTypes(t *testing.T) {
	for _, x := range allTypes[1:] {
		m := newMade(t)
		v, w, zero, one, ten := m.variable(x, 0), m.variable(x, 1), m.num(x, 0), m.num(x, 1), m.num(x, 10)
		m.holdCan(true, m.do("==", m.do("+", v, w), ten), m.do("==", m.do("-", v, w), m.num(x, 4)))
		m.holdCan(false, m.do("==", m.do("+", v, v), m.do("+", m.do("*", w, m.num(x, 2)), one)))
		m.holdCan(true, m.do("<", m.do("+", v, one), v))
		m.holdCan(false, m.do("<", m.do("+", v, one), v), m.do("<", v, ten))
		m.holdCan(false, m.do(">", v, zero), m.do(">=", m.do("%", w, v), v))
		m.holdCan(true, m.do("==", m.do("*", v, m.num(x, 7)), ten), m.do("==", m.do("&", w, v), m.num(x, 2)))
		m.holdCan(false, m.do("==", m.do("*", v, m.num(x, 7)), ten), m.do("==", m.do("&", w, v), one))
		m.holdCan(true, m.do("==", m.do("/", v, ten), m.num(x, 3)), m.do("==", m.do("%", v, ten), m.num(x, 9)))
		m.holdCan(x.Signed, m.do("<", v, zero), m.do(">=", w, zero), m.do("<", v, w))
		m.holdCan(x.Signed, m.do("<", m.do("u-", ten), ten))
		for _, y := range allTypes[1:] {
			// Within ten and two numbers of any types are what they are.
			c := m.cast(y, v)
			m.holdCan(false, m.do(">=", v, zero), m.do("<", v, ten), m.do(">=", c, m.num(y, 10)))
			m.holdCan(x.Signed && y.Signed, m.do("<", v, zero), m.do("<", c, m.num(y, 0)), m.do("==", v, m.num(x, 1<<x.Width-1)))
		}
	}
}

// P12.1, P12.2: a term that isn't there is told ahead of one of another type, wherever they stand, and both ahead of a limit.
func TestRefuses(t *testing.T) {
	m := newMade(t)
	v, w, flag, no := m.variable(u8, 0), m.variable(i64, 1), m.variable(truth, 2), m.num(truth, 0)
	less := m.do("<", v, m.num(u8, 5))
	refused := func(want api.Errno, l ...int) {
		t.Helper()
		for _, limit := range []int{-1, 0, 1, math.MaxInt, math.MinInt} {
			if is, ok, e := m.s.Can(limit, l...); is != nil || ok || e != want {
				t.Error(m.names(l...), is, ok, e, want)
			}
			if c, ok, e := m.s.Core(limit, l...); c != nil || ok || e != want {
				t.Error(m.names(l...), c, ok, e, want)
			}
			for i, f := range l {
				if ok, e := m.s.Must(limit, f, slices.Delete(slices.Clone(l), i, i+1)...); ok || e != want {
					t.Error(m.names(f), "where", m.names(l...), ok, e, want)
				}
			}
		}
	}
	for _, f := range []int{-1, m.p.Len(), m.p.Len() + 1000, math.MaxInt, math.MinInt} {
		for _, l := range [][]int{{f}, {f, less}, {less, f}, {flag, f, no}, {v, f}, {f, v}, {f, w, v}, {less, v, f, w}, {f, f}} {
			refused(api.ErrTermNode, l...)
		}
	}
	for _, l := range [][]int{{v}, {w}, {less, v}, {v, less}, {flag, w, no}, {no, v}, {v, v}, {m.num(u64, 1)}, {m.cast(u8, flag)}} {
		refused(api.ErrTermType, l...)
	}
	if m.s.Asked() != 0 || m.s.Conflicts() != 0 {
		t.Error(m.s.Asked(), m.s.Conflicts())
	}
	// What was refused can be asked, once it is there.
	next := m.p.Len()
	refused(api.ErrTermNode, next)
	if f := m.do("==", v, m.num(u8, 200)); f != next && m.num(u8, 200) != next {
		t.Fatal(f, next)
	}
	m.holdCan(true, m.do("==", v, m.num(u8, 200)))
	m.holdCan(false, m.do("==", v, m.num(u8, 200)), less)
}

// P12.3: calls are counted, but for refused ones.
func TestAsked(t *testing.T) {
	m := newMade(t)
	v := m.variable(u8, 0)
	less := m.do("<", v, m.num(u8, 5))
	want := 0
	count := func(e, wanted api.Errno) {
		t.Helper()
		if e == api.OK {
			want++
		}
		if e != wanted || m.s.Asked() != want {
			t.Error(e, wanted, m.s.Asked(), want)
		}
	}
	can := func(l ...int) api.Errno { _, _, e := m.s.Can(0, l...); return e }
	must := func(f int, l ...int) api.Errno { _, e := m.s.Must(0, f, l...); return e }
	core := func(l ...int) api.Errno { _, _, e := m.s.Core(0, l...); return e }
	for range 3 {
		count(can(), api.OK)
		count(can(less), api.OK)
		count(can(less, m.do("u!", less)), api.OK)
		count(can(v), api.ErrTermType)
		count(must(less), api.OK)
		count(must(less, less), api.OK)
		count(must(less, -1), api.ErrTermNode)
		count(core(), api.OK)
		count(core(less), api.OK)
		count(core(less, m.do("u!", less), less), api.OK) // one call, whatever it takes to answer
		count(core(v), api.ErrTermType)
		count(can(99999), api.ErrTermNode)
	}
	if New(m.p).Asked() != 0 {
		t.Error(New(m.p).Asked())
	}
}

// P12.2: a core has none that can be left out, if that is found out soon.
func TestCore(t *testing.T) {
	m := newMade(t)
	v, w, x := m.variable(i32, 0), m.variable(i32, 1), m.variable(i32, 2)
	num := func(n int32) int { return m.num(i32, uint64(n)) }
	sum, other := m.do("==", m.do("+", v, w), num(10)), m.do("==", m.do("*", w, x), num(12))
	less, more, never, flag := m.do("<", v, num(-5)), m.do(">", v, num(7)), m.num(truth, 0), m.variable(truth, 3)
	turned := m.do("u!", flag)
	for _, c := range []struct{ l, want []int }{
		{[]int{sum, less, more}, []int{less, more}},
		{[]int{more, sum, other, less}, []int{less, more}},
		{[]int{more, more, less, less, more}, []int{less, more}},
		{[]int{more, never}, []int{never}},
		{[]int{never, never, sum}, []int{never}},
		{[]int{turned, flag, other, flag}, []int{flag, turned}},
		{[]int{sum, m.do("==", v, num(3)), other, m.do("==", w, num(8))}, []int{sum, m.do("==", v, num(3)), m.do("==", w, num(8))}},
		{[]int{sum, less, other}, nil},
		{nil, nil},
	} {
		slices.Sort(c.want)
		for range 2 {
			if core, no, e := m.s.Core(0, c.l...); !slices.Equal(core, c.want) || no != (len(c.want) > 0) || e != api.OK {
				t.Error(m.names(c.l...), core, no, e, c.want)
			}
		}
	}
	// Terms that have one bit: any of them stands for it.
	again := m.do("!=", m.cast(u8, turned), m.num(u8, 0))
	core, no, e := m.s.Core(0, flag, again, turned)
	if !no || e != api.OK || len(core) != 2 {
		t.Error(core, no, e)
	}
	m.isCore(core, flag, again, turned)
}

// P12.2: terms made by chance: none of a core can be left out, as that is found out soon here.
func TestLeast(t *testing.T) {
	many := 0
	for seed := range uint64(20) {
		g := newGrown(t, 700+seed, []api.Type{u8, i8, u16, i16}[seed%4], 0, 3)
		for range 4 {
			g.put(g.do(g.op("+", "-"), g.pick(g.of), g.pick(g.of)))
		}
		for range 30 {
			g.put(g.do(g.op("==", "!=", "<", "<=", ">", ">="), g.pick(g.of), g.pick(g.of)))
		}
		for range 60 {
			l := g.some(6)
			core, no, e := g.s.Core(0, l...)
			if e != api.OK {
				t.Fatal(e)
			}
			if !no {
				continue
			}
			g.isCore(core, l...)
			for i := range core {
				if ok, e := g.can(0, slices.Delete(slices.Clone(core), i, i+1)...); !ok || e != api.OK {
					t.Fatal(g.names(l...), "core", g.names(core...), i, ok, e)
				}
			}
			if len(core) > 1 {
				many++
			}
		}
	}
	if many < 50 {
		t.Error(many)
	}
}

// P12.2: it isn't tried for long to leave a term out.
func TestCoreSoon(t *testing.T) {
	m := newMade(t)
	flag := m.variable(truth, 2)
	both, not := m.do("&&", m.all(m.hard(u64, 0, 1, 1<<61-1)...), flag), m.do("u!", flag)
	want := []int{both, not}
	slices.Sort(want)
	for _, limit := range []int{0, 1 << 30} {
		m.s = New(m.p)
		core, no, e := m.s.Core(limit, not, both)
		if !slices.Equal(core, want) || !no || e != api.OK || m.s.Conflicts() > 1000 {
			t.Error(core, no, e, m.s.Conflicts())
		}
	}
}
