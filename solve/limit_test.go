package solve

import (
	"math"
	"testing"

	"skua/api"
)

// hard is terms that can't all be true, which takes many conflicts to find out: of numbers above 1 below 2 to half of the width a product is a prime.
func (m *made) hard(x api.Type, v, w int, prime uint64) []int {
	a, b := m.variable(x, v), m.variable(x, w)
	one, half := m.num(x, 1), m.num(x, 1<<(x.Width/2))
	return []int{m.do("==", m.do("*", a, b), m.num(x, prime)), m.do(">", a, one), m.do(">", b, one), m.do("<", a, half), m.do("<", b, half)}
}

// P12.1, P12.2: a limit that is come to; one of 0 or below is none.
func TestLimit(t *testing.T) {
	m := newMade(t)
	l := m.hard(u32, 0, 1, 1000000007)
	not := m.do("u!", l[0])
	for limit := 1; limit <= 200; limit += 1 + limit/2 {
		// Each time by a solver that has learnt nothing.
		m.s = New(m.p)
		is, ok, e := m.s.Can(limit, l...)
		if is != nil || ok || e != api.ErrSolveLimit || m.s.Conflicts() != limit || m.s.Asked() != 0 {
			t.Error(limit, is, ok, e, m.s.Conflicts(), m.s.Asked())
		}
		m.s = New(m.p)
		if ok, e := m.s.Must(limit, not, l[1:]...); ok || e != api.ErrSolveLimit || m.s.Conflicts() != limit || m.s.Asked() != 0 {
			t.Error(limit, ok, e, m.s.Conflicts(), m.s.Asked())
		}
		m.s = New(m.p)
		c, no, e := m.s.Core(limit, l...)
		if c != nil || no || e != api.ErrSolveLimit || m.s.Conflicts() != limit || m.s.Asked() != 0 {
			t.Error(limit, c, no, e, m.s.Conflicts(), m.s.Asked())
		}
		// It isn't for good.
		if ok, e := m.can(limit, l[1:]...); !ok || e != api.OK || m.s.Asked() != 1 {
			t.Error(limit, ok, e)
		}
	}
	small := m.hard(u16, 2, 3, 251)
	for _, limit := range []int{0, -1, math.MinInt, math.MaxInt} {
		m.s = New(m.p)
		if ok, e := m.can(limit, small...); ok || e != api.OK {
			t.Error(limit, ok, e)
		}
		if c, no, e := m.s.Core(limit, small...); !no || e != api.OK {
			t.Error(limit, c, no, e)
		} else {
			m.isCore(c, small...)
		}
		if ok, e := m.s.Must(limit, m.do("u!", small[0]), small[1:]...); !ok || e != api.OK {
			t.Error(limit, ok, e)
		}
	}
}

// P12.1: a question that comes to its limit is the nearer to an end when it is asked again.
func TestLimitAgain(t *testing.T) {
	m := newMade(t)
	l := m.hard(u16, 0, 1, 251)
	for asked := 1; ; asked++ {
		ok, e := m.can(20, l...)
		if e == api.OK {
			if ok || asked < 2 || m.s.Asked() != 1 {
				t.Error(asked, ok, m.s.Asked())
			}
			break
		}
		if e != api.ErrSolveLimit || m.s.Conflicts() != 20*asked || asked > 1000 {
			t.Fatal(asked, ok, e, m.s.Conflicts())
		}
	}
}

// P12.2: what makes a core smaller comes to no more conflicts than the limit says, either.
func TestCoreLimit(t *testing.T) {
	m := newMade(t)
	l := m.hard(u16, 0, 1, 251)
	least := m.hard(u8, 2, 3, 13)
	l = append(l, least...)
	few := 0
	for limit := 1; limit < 400; limit += 4 {
		m.s = New(m.p)
		c, no, e := m.s.Core(limit, l...)
		if m.s.Conflicts() > limit || (e == api.OK) != no || e != api.OK && e != api.ErrSolveLimit {
			t.Fatal(limit, c, no, e, m.s.Conflicts())
		}
		if no {
			few++
			m.isCore(c, l...)
		}
	}
	if few < 30 {
		t.Error(few)
	}
}

// P12.3: conflicts of all calls count, refused ones or not; none is forgotten, whatever is asked between.
func TestConflicts(t *testing.T) {
	m := newMade(t)
	last := 0
	rises := func(least int) {
		t.Helper()
		if now := m.s.Conflicts(); now < last+least {
			t.Fatal(now, last, least)
		} else {
			last = now
		}
	}
	rises(0)
	for i := range 12 {
		l := m.hard(u32, 2*i, 2*i+1, 1000000007)
		m.s.Can(30, l...)
		rises(30)
		m.s.Must(5, l[0], l[1:]...)
		rises(0)
		m.s.Core(7, l...)
		rises(7)
		m.s.Can(0, -1)
		m.s.Can(0, m.variable(u32, 0))
		if m.s.Conflicts() != last {
			t.Error(m.s.Conflicts(), last)
		}
	}
	for i := range 12 {
		m.s.Can(30, m.hard(u32, 2*i, 2*i+1, 1000000007)...)
		rises(30)
	}
}

// P12.1: more variables than clauses may have: refused, and so is all from there on.
func TestFull(t *testing.T) {
	m := newMade(t)
	const many = api.MaxLits/64 - 1 // of 64 bits: with these there are 63 more
	l := []int{m.variable(truth, many), m.variable(truth, many+1)}
	for i := range 62 {
		l = append(l, m.variable(truth, many+2+i))
	}
	for i := range many {
		if _, e := m.s.Bits(m.variable(u64, i)); e != api.OK {
			t.Fatal(i, e)
		}
	}
	turned := m.do("u!", l[62])
	m.holdCan(true, l[:60]...)
	m.holdCan(true, l[:63]...)
	m.holdCan(false, append(l[:63:63], turned)...)
	if m.s.Vars() != api.MaxLits {
		t.Fatal(m.s.Vars())
	}
	asked := m.s.Asked()
	refused := func(l ...int) {
		t.Helper()
		if is, ok, e := m.s.Can(0, l...); is != nil || ok || e != api.ErrSolveLimit {
			t.Error(is, ok, e)
		}
		if c, ok, e := m.s.Core(0, l...); c != nil || ok || e != api.ErrSolveLimit {
			t.Error(c, ok, e)
		}
		if ok, e := m.s.Must(0, m.num(truth, 1), l...); ok || e != api.ErrSolveLimit {
			t.Error(ok, e)
		}
	}
	refused(l[63])
	refused(l[0])
	refused(turned, l[62])
	refused(m.num(truth, 0))
	refused()
	if _, _, e := m.s.Can(0, m.variable(u64, 0)); e != api.ErrTermType {
		t.Error(e)
	}
	if _, e := m.s.Must(0, l[0], m.variable(u64, 0), -1); e != api.ErrTermNode {
		t.Error(e)
	}
	if m.s.Asked() != asked {
		t.Error(m.s.Asked(), asked)
	}
	// Another solver of the pool has room.
	m.s = New(m.p)
	m.holdCan(true, l[63])
}

// P12.1: of a term with far too many parts it isn't even tried to have them all.
func TestFarTooGreat(t *testing.T) {
	m := newMade(t)
	f := m.num(truth, 1)
	for i := range 20000 {
		f = m.do("&&", m.cast(truth, m.variable(u64, i)), f)
	}
	for range 3 {
		if ok, e := m.can(0, f); ok || e != api.ErrSolveLimit {
			t.Error(ok, e)
		}
	}
	if n := m.s.Vars(); n <= api.MaxLits || n > api.MaxLits+64 {
		t.Error(n)
	}
}

// P12.1: great terms, and terms that stand deep in one another.
func TestGreat(t *testing.T) {
	m := newMade(t)
	sum := m.num(u64, 0)
	for i := range 300 {
		sum = m.do("+", sum, m.variable(u64, i))
	}
	if ok, e := m.can(0, m.do("<", sum, m.num(u64, 5))); !ok || e != api.OK {
		t.Error(ok, e)
	}
	flag, f := m.variable(truth, 1000), m.variable(truth, 1001)
	for i := range 1 << 14 {
		f = m.do("^", m.do("&&", f, flag), m.variable(truth, 1002+i%2))
	}
	if ok, e := m.can(0, f); !ok || e != api.OK {
		t.Error(ok, e)
	}
	if ok, e := m.can(0, m.do("u!", f)); !ok || e != api.OK {
		t.Error(ok, e)
	}
	if ok, e := m.s.Must(0, m.do("==", f, m.variable(truth, 1003)), m.do("u!", flag)); !ok || e != api.OK {
		t.Error(ok, e)
	}
}
