package term

import (
	"math"
	"slices"
	"strings"
	"testing"

	"skua/api"
)

// P10.1: Put, written out: all at once, none, variables that the term doesn't have, and such that the pool doesn't.
func TestPut(t *testing.T) {
	p := New()
	x, y, b := must(t)(p.Var(u8, 0)), must(t)(p.Var(u8, 1)), must(t)(p.Var(boolType, 2))
	seven := must(t)(p.Num(u8, 7))
	less := must(t)(p.Do("<", x, y))
	sum := must(t)(p.Do("ite", b, must(t)(p.Do("+", x, y)), x))
	for i, z := range []struct {
		f        int
		vars, by []int
		want     string
	}{
		{less, nil, nil, "(< v0:u8 v1:u8)"},
		{less, []int{0}, []int{seven}, "(< 7:u8 v1:u8)"},
		{less, []int{0, 1}, []int{y, seven}, "(< v1:u8 7:u8)"},
		{less, []int{0, 1}, []int{y, x}, "(< v1:u8 v0:u8)"}, // all at once
		{less, []int{1, 0}, []int{x, y}, "(< v1:u8 v0:u8)"},
		{less, []int{0, 1}, []int{x, y}, "(< v0:u8 v1:u8)"},
		{less, []int{0, 1}, []int{y, y}, "0:bool"},
		{less, []int{1, 0}, []int{seven, must(t)(p.Num(u8, 6))}, "1:bool"},
		{less, []int{2}, []int{less}, "(< v0:u8 v1:u8)"},
		{less, []int{9, -1, math.MaxInt, math.MinInt}, []int{less, x, b, sum}, "(< v0:u8 v1:u8)"},
		{less, []int{9, 1}, []int{less, seven}, "(< v0:u8 7:u8)"},
		{sum, []int{2}, []int{less}, "(ite (< v0:u8 v1:u8) (+ v0:u8 v1:u8) v0:u8)"},
		{sum, []int{0, 2}, []int{sum, less}, "(ite (< v0:u8 v1:u8) (+ (ite v2:bool (+ v0:u8 v1:u8) v0:u8) v1:u8) (ite v2:bool (+ v0:u8 v1:u8) v0:u8))"},
		{sum, []int{2}, []int{must(t)(p.Num(boolType, 1))}, "(+ v0:u8 v1:u8)"},
		{seven, []int{0}, []int{y}, "7:u8"},
		{x, []int{0}, []int{sum}, p.Show(sum)},
		{b, []int{2}, []int{b}, "v2:bool"},
	} {
		if f, e := p.Put(z.f, z.vars, z.by); p.Show(f) != z.want || e != api.OK {
			t.Error(i, p.Show(f), e)
		}
	}
}

// P10.1: Put refuses lists of other lengths, a variable twice, and one that its term isn't of the type of, whether the term has it or not; but a term that isn't there ahead of that.
func TestPutRefused(t *testing.T) {
	p := New()
	x, y, b, s := must(t)(p.Var(u8, 0)), must(t)(p.Var(u8, 1)), must(t)(p.Var(boolType, 2)), must(t)(p.Var(i8, 3))
	less := must(t)(p.Do("<", x, y))
	before := p.Len()
	for i, z := range []struct {
		vars, by []int
		want     api.Errno
	}{
		{[]int{0}, nil, api.ErrTermVar}, {nil, []int{x}, api.ErrTermVar}, {[]int{0, 1}, []int{x}, api.ErrTermVar}, {[]int{0}, []int{x, y}, api.ErrTermVar},
		{[]int{0, 0}, []int{x, x}, api.ErrTermVar}, {[]int{0, 1, 0}, []int{x, y, y}, api.ErrTermVar}, {[]int{9, 9}, []int{x, x}, api.ErrTermVar},
		{[]int{0}, []int{b}, api.ErrTermVar}, {[]int{0}, []int{s}, api.ErrTermVar}, {[]int{2}, []int{x}, api.ErrTermVar}, {[]int{3}, []int{x}, api.ErrTermVar}, {[]int{0, 3}, []int{x, x}, api.ErrTermVar}, {[]int{9, 1}, []int{x, less}, api.ErrTermVar},
		{[]int{0}, []int{999}, api.ErrTermNode}, {[]int{0, 0}, []int{x, -1}, api.ErrTermNode}, {nil, []int{before}, api.ErrTermNode}, {[]int{2, 2}, []int{x, before}, api.ErrTermNode},
	} {
		if f, e := p.Put(less, z.vars, z.by); f != 0 || e != z.want {
			t.Error(i, f, e)
		}
	}
	if p.Len() != before {
		t.Error(p.Len(), before)
	}
}

// P1, P10.1, P10.2: terms whose parts stand there many times over, whose texts nobody could tell.
func TestShared(t *testing.T) {
	p := New()
	f := must(t)(p.Var(u64, 0))
	for range 200 {
		f = must(t)(p.Do("+", f, must(t)(p.Do("^", f, must(t)(p.Var(u64, 1))))))
	}
	want, y := uint64(5), uint64(0x0f0f)
	for range 200 {
		want += want ^ y
	}
	is := []api.Value{{Var: 0, Type: u64, Num: 5}, {Var: 1, Type: u64, Num: y}}
	if v, e := p.Eval(f, is); v != want || e != api.OK {
		t.Error(v, want, e)
	}
	if l := p.Vars(f, f); !slices.Equal(l, []api.Value{{Var: 0, Type: u64}, {Var: 1, Type: u64}}) {
		t.Error(l)
	}
	put := must(t)(p.Put(f, []int{0}, []int{must(t)(p.Var(u64, 2))}))
	if v, e := p.Eval(put, []api.Value{{Var: 2, Type: u64, Num: 5}, is[1]}); v != want || e != api.OK {
		t.Error(v, want, e)
	}
	num := must(t)(p.Put(f, []int{0, 1}, []int{must(t)(p.Num(u64, 5)), must(t)(p.Num(u64, y))}))
	if v, is := p.Const(num); v != want || !is {
		t.Error(v, is)
	}
	if p.Len() > 2000 {
		t.Error(p.Len())
	}
}

// P1, P10.1, P10.2: terms that stand 2^16 deep in one another, and many more of them.
func TestDeep(t *testing.T) {
	const deep = 1 << 16
	p := New()
	x, three := must(t)(p.Var(u32, 0)), must(t)(p.Num(u32, 3))
	f := x
	for range deep {
		f = must(t)(p.Do("+", f, three))
	}
	if v, e := p.Eval(f, []api.Value{{Var: 0, Type: u32, Num: 4}}); v != 4+3*deep || e != api.OK {
		t.Error(v, e)
	}
	if l := p.Vars(f); !slices.Equal(l, []api.Value{{Var: 0, Type: u32}}) {
		t.Error(l)
	}
	if s := p.Show(f); s != strings.Repeat("(+ ", deep)+"v0:u32"+strings.Repeat(" 3:u32)", deep) {
		t.Error(len(s))
	}
	if g := must(t)(p.Put(f, []int{0}, []int{three})); p.Show(g) != "196611:u32" {
		t.Error(p.Show(g))
	}
	var l []int
	for v := range deep {
		l = append(l, must(t)(p.Var(boolType, v+1)))
	}
	all := must(t)(p.All(l...))
	if vars := p.Vars(all); len(vars) != deep || vars[0].Var != 1 || vars[deep-1].Var != deep {
		t.Error(len(vars))
	}
}
