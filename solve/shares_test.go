package solve

import (
	"slices"
	"testing"

	"skua/api"
)

// Rules: what is handed in is neither changed nor kept, the spare room included; what is handed out is new.
func TestSharesNothing(t *testing.T) {
	m := newMade(t)
	v, w := m.variable(u8, 0), m.variable(u8, 1)
	five := m.num(u8, 5)
	less, more, same := m.do("<", v, five), m.do(">", v, five), m.do("==", v, w)
	handed := func() []int { return []int{same, more, less, 77, 78}[:3] }
	holds := func(l []int) {
		t.Helper()
		if !slices.Equal(l[:5], []int{same, more, less, 77, 78}) {
			t.Error(l[:5])
		}
		for i := range l[:5] {
			l[:5][i] = -1
		}
	}
	for range 3 {
		l := handed()
		if _, ok, e := m.s.Can(0, l...); ok || e != api.OK {
			t.Error(ok, e)
		}
		holds(l)
		l = handed()
		core, no, e := m.s.Core(0, l...)
		holds(l)
		if !slices.Equal(core, []int{less, more}) || !no || e != api.OK {
			t.Error(core, no, e)
		}
		for i := range core[:cap(core)] {
			core[:cap(core)][i] = -5
		}
		l = handed()
		if ok, e := m.s.Must(0, same, l...); !ok || e != api.OK {
			t.Error(ok, e)
		}
		holds(l)
		l = handed()
		is, ok, e := m.s.Can(0, l[:2]...)
		holds(l)
		if !ok || e != api.OK || len(is) != 2 || is[0].Num <= 5 || is[0].Num != is[1].Num {
			t.Error(is, ok, e)
		}
		for i := range is[:cap(is)] {
			is[:cap(is)][i] = api.Value{Var: -5, Num: 300}
		}
	}
	if m.p.Len() != m.pLen(less, more, same) {
		t.Error(m.p.Len())
	}
}

// pLen is how many terms a pool of just these has: the solver makes none.
func (m *made) pLen(l ...int) int {
	parts := map[int]struct{}{}
	for open := l; len(open) > 0; open = open[1:] {
		parts[open[0]] = struct{}{}
		_, more := m.p.Parts(open[0])
		open = append(slices.Clone(open), more...)
	}
	return len(parts)
}
