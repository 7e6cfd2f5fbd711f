package blast

import (
	"math"
	"slices"
	"testing"

	"skua/api"
	"skua/term"
)

// P11.1: the chapter's example.
func TestExample(t *testing.T) {
	a := newAsked(t)
	x := a.variable(boolType)
	not := a.ask(a.do("u!", x))
	bit := a.ask(x)
	if len(not) != 1 || len(bit) != 1 || not[0] != -bit[0] || bit[0] <= 1 {
		t.Error(not, bit)
	}
	if l := a.b.Clauses(); !sameClauses(l, [][]int{{1}}) {
		t.Error(l)
	}
}

// P11.1: a blaster that knows no term yet.
func TestNew(t *testing.T) {
	b := New(term.New())
	if b.Vars() != 1 || !sameClauses(b.Clauses(), [][]int{{1}}) || !sameClauses(b.Fresh(), [][]int{{1}}) {
		t.Error(b.Vars(), b.Clauses())
	}
	if l := b.Fresh(); len(l) != 0 {
		t.Error(l)
	}
	if !sameClauses(b.Clauses(), [][]int{{1}}) {
		t.Error(b.Clauses())
	}
}

// P11.1: of a term that isn't there it says so, and nothing is made.
func TestNoTerm(t *testing.T) {
	a := newAsked(t)
	for range 3 {
		vars, l := a.b.Vars(), a.b.Clauses()
		for _, f := range []int{-1, a.p.Len(), a.p.Len() + 1, math.MinInt, math.MaxInt, 1 << 32, -1 << 32, 1 << 62} {
			if bits, e := a.b.Bits(f); bits != nil || e != api.ErrTermNode {
				t.Error(f, bits, e)
			}
		}
		if a.b.Vars() != vars || !sameClauses(a.b.Clauses(), l) {
			t.Error(vars, a.b.Vars(), l, a.b.Clauses())
		}
		// The terms that are made now are there the next time.
		x := a.variable(u8)
		a.ask(a.do("+", x, a.num(u8, 3)))
	}
	a.holds(way{0: 1, 1: 2, 2: 253})
}

// P11.1: a number's bits are those of it, and take no clause.
func TestNumbers(t *testing.T) {
	a := newAsked(t)
	for _, x := range allTypes {
		for _, v := range edges(x) {
			bits := a.ask(a.num(x, v))
			for i, n := range bits {
				if v>>i&1 == 0 && n != -1 || v>>i&1 != 0 && n != 1 {
					t.Error(nameOf(x), v, bits)
				}
			}
		}
	}
	if a.b.Vars() != 1 || len(a.b.Clauses()) != 1 {
		t.Error(a.b.Vars(), a.b.Clauses())
	}
	a.holds(nil)
}

// P11.1: a variable's bits are variables of their own, that may be whatever.
func TestVariables(t *testing.T) {
	a := newAsked(t)
	taken := map[int]struct{}{1: {}}
	greatest := 1
	for range 2 {
		for _, x := range allTypes {
			for _, n := range a.ask(a.variable(x)) {
				if _, twice := taken[n]; twice || n < 0 {
					t.Error(nameOf(x), n)
				}
				taken[n] = struct{}{}
				greatest = max(greatest, n)
			}
			if a.b.Vars() != greatest {
				t.Error(a.b.Vars(), greatest)
			}
		}
	}
	lowest, highest := way{}, way{}
	for _, v := range a.vars {
		highest[v.Var] = math.MaxUint64 >> (64 - v.Type.Width)
	}
	a.holds(lowest, highest)
}

// P11.1: the terms may be asked for in any order, parts behind what they are of, variables of which only a part counts, and numbers that stand far apart.
func TestOrder(t *testing.T) {
	for _, ahead := range []bool{false, true} {
		a := newAsked(t)
		x, y := a.variable(i32), a.variable(u8)
		z := a.made(a.p.Var(i64, 1<<40))
		low := a.made(a.p.Cast(u8, x))
		sum := a.do("+", low, y)
		less := a.do("<", sum, a.made(a.p.Cast(u8, z)))
		l := []int{x, y, low, sum, less}
		if !ahead {
			slices.Reverse(l)
		}
		a.askAll(l...)
		a.vars = append(a.vars, api.Value{Var: 1 << 40, Type: i64})
		a.holds(way{0: 0xffff_ff05, 1: 3, 1 << 40: 9}, way{0: 0x5fe, 1: 3, 1 << 40: 1}, way{1: 255, 1 << 40: 1<<63 | 254})
	}
}

// P11.1: Fresh tells each clause once, in the order of all; a term that is asked for again adds nothing.
func TestFresh(t *testing.T) {
	a := newAsked(t)
	x, y := a.variable(u8), a.variable(u8)
	var all [][]int
	take := func() int {
		l := a.b.Fresh()
		all = append(all, l...)
		if !sameClauses(all, a.b.Clauses()) {
			t.Error(all, a.b.Clauses())
		}
		if again := a.b.Fresh(); len(again) != 0 {
			t.Error(again)
		}
		return len(l)
	}
	for i, f := range []int{a.do("+", x, y), a.do("<", x, y), a.do("*", x, y), a.do("%", x, y)} {
		if i != 1 && take() == 0 {
			t.Error(i)
		}
		a.ask(f)
		vars, l := a.b.Vars(), a.b.Clauses()
		a.ask(f)
		a.ask(x)
		if a.b.Vars() != vars || !sameClauses(a.b.Clauses(), l) {
			t.Error(i, vars, a.b.Vars())
		}
	}
	if take() == 0 || take() != 0 {
		t.Error(all)
	}
}

// P11.1: Vars is the greatest variable of all bits and clauses.
func TestVars(t *testing.T) {
	a := newAsked(t)
	x, y := a.variable(u16), a.variable(u16)
	for _, f := range []int{x, a.do("u~", x), a.do("&", x, y), a.do("-", x, y), a.do("/", x, y), a.do(">", x, y), a.num(u64, 1), a.do("u!", a.do("==", x, y))} {
		a.ask(f)
		greatest := 0
		for _, l := range append(a.b.Clauses(), a.bits[x], a.bits[f], a.ask(y)) {
			for _, n := range l {
				greatest = max(greatest, n, -n)
			}
		}
		if a.b.Vars() != greatest {
			t.Error(a.p.Show(f), a.b.Vars(), greatest)
		}
	}
}

// P11.2: the bits whose literals are true, 64 of them at most.
func TestValue(t *testing.T) {
	rising := func(many int) []int {
		var l []int
		for n := range many {
			l = append(l, n+2)
		}
		return l
	}
	for _, x := range []struct {
		bits, is []int
		want     uint64
	}{
		{nil, nil, 0}, {nil, []int{1, 2}, 0}, {[]int{2, 3}, nil, 0}, {[]int{1, -1, 1}, nil, 0}, {[]int{}, []int{}, 0},
		{[]int{1, -1, 1}, []int{1}, 5}, {[]int{1, -1, 1}, []int{-1}, 2}, {[]int{1, -1}, []int{1, -1}, 3},
		{[]int{2, 3, 4}, []int{2}, 1}, {[]int{2, 3, 4}, []int{4}, 4}, {[]int{2, 3, 4}, []int{4, -3, 2}, 5}, {[]int{2, -3, 4}, []int{4, -3, 2}, 7}, {[]int{2, -3, 4}, []int{4, 3, 2}, 5}, {[]int{-2, 3}, []int{-2, -3}, 1},
		{[]int{2, 2, 2}, []int{2}, 7}, {[]int{2, -2, 2}, []int{-2}, 2}, {[]int{3, 2}, []int{2, 2, 2}, 2}, {[]int{5}, []int{6, 7, -5, 4}, 0},
		{[]int{0, 5}, []int{0}, 1}, {[]int{0, 5}, []int{5}, 2}, {[]int{math.MinInt, math.MaxInt}, []int{math.MaxInt}, 2}, {[]int{math.MinInt, math.MaxInt}, []int{math.MinInt}, 1},
		{rising(64), rising(64), math.MaxUint64}, {rising(64), []int{65}, 1 << 63}, {rising(65), []int{65, 66}, 1 << 63}, {rising(200), rising(300), math.MaxUint64}, {rising(200), []int{66, 67, 130}, 0},
		{slices.Repeat([]int{1}, 100), []int{1}, math.MaxUint64}, {slices.Repeat([]int{1, 2}, 100), []int{1}, 0x5555555555555555},
	} {
		if got := Value(x.bits, x.is); got != x.want {
			t.Error(x.bits, x.is, got, x.want)
		}
	}
}
