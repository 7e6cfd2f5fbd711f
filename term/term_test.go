package term

import (
	"math"
	"slices"
	"testing"

	"skua/api"
)

// P10.1, P10.2: the chapter's examples.
func TestExamples(t *testing.T) {
	p := New()
	if p.Len() != 0 {
		t.Error(p.Len())
	}
	sum := must(t)(p.Do("+", must(t)(p.Num(u8, 200)), must(t)(p.Num(u8, 100))))
	if p.Show(sum) != "44:u8" {
		t.Error(p.Show(sum))
	}
	less := must(t)(p.Do("<", must(t)(p.Var(u8, 0)), must(t)(p.Num(u8, 5))))
	if p.Show(less) != "(< v0:u8 5:u8)" || p.Type(less) != boolType {
		t.Error(p.Show(less), p.Type(less))
	}
	if f := must(t)(p.Put(less, []int{0}, []int{must(t)(p.Num(u8, 3))})); p.Show(f) != "1:bool" {
		t.Error(p.Show(f))
	}
}

// P10.1, P10.2: numbers of all types, at the edges and beyond 2^Width: each number stands there once.
func TestNum(t *testing.T) {
	p := New()
	many := map[string]int{}
	for _, x := range allTypes {
		top := uint64(math.MaxUint64) >> (64 - x.Width)
		for _, v := range append(edges(x), 256, 257, 1<<32+9, 1<<63, 1<<63+5, math.MaxUint64, math.MaxUint64-1) {
			f := must(t)(p.Num(x, v))
			want := v & top
			if got, is := p.Const(f); got != want || !is {
				t.Error(nameOf(x), v, got, is)
			}
			text := tree{op: "num", t: x, num: want}.show()
			op, parts := p.Parts(f)
			if p.Show(f) != text || p.Type(f) != x || op != "num" || len(parts) != 0 || len(p.Vars(f)) != 0 {
				t.Error(p.Show(f), text, p.Type(f), op, parts, p.Vars(f))
			}
			if got, e := p.Eval(f, nil); got != want || e != api.OK {
				t.Error(p.Show(f), got, e)
			}
			if g, there := many[text]; there && g != f {
				t.Error(text, f, g)
			}
			many[text] = f
		}
	}
	if p.Len() != len(many) {
		t.Error(p.Len(), len(many))
	}
	for _, x := range noTypes {
		if f, e := p.Num(x, 1); f != 0 || e != api.ErrTermType {
			t.Error(x, f, e)
		}
	}
	if p.Len() != len(many) {
		t.Error(p.Len(), len(many))
	}
}

// P10.1, P10.2: variables of all types, each of one type in a pool; what is wrong with both is told of the type.
func TestVar(t *testing.T) {
	numbers := []int{0, 1, 2, 255, 256, 1 << 31, 1 << 32, 1<<32 + 1, math.MaxInt}
	p := New()
	for i, v := range numbers {
		x := allTypes[i]
		f := must(t)(p.Var(x, v))
		op, parts := p.Parts(f)
		text := tree{op: "var", t: x, num: uint64(v)}.show()
		if p.Show(f) != text || p.Type(f) != x || op != "var" || len(parts) != 0 || p.Len() != i+1 {
			t.Error(p.Show(f), text, p.Type(f), op, parts, p.Len())
		}
		if num, is := p.Const(f); num != 0 || is {
			t.Error(num, is)
		}
		if l := p.Vars(f); !slices.Equal(l, []api.Value{{Var: v, Type: x}}) {
			t.Error(l)
		}
		if got, e := p.Eval(f, []api.Value{{Var: v, Type: x, Num: math.MaxUint64}}); got != math.MaxUint64>>(64-x.Width) || e != api.OK {
			t.Error(got, e)
		}
	}
	for i, v := range numbers {
		for _, x := range allTypes {
			f, e := p.Var(x, v)
			switch {
			case x == allTypes[i] && (f != i && p.Show(f) != tree{op: "var", t: x, num: uint64(v)}.show() || e != api.OK):
				t.Error(v, x, f, e)
			case x != allTypes[i] && (f != 0 || e != api.ErrTermVar):
				t.Error(v, x, f, e)
			}
		}
		for _, x := range noTypes {
			for _, no := range []int{v, -1, math.MinInt} {
				if f, e := p.Var(x, no); f != 0 || e != api.ErrTermType {
					t.Error(no, x, f, e)
				}
			}
		}
	}
	for _, v := range []int{-1, -2, math.MinInt, -1 << 32, -1<<32 + 1} {
		for _, x := range allTypes {
			if f, e := p.Var(x, v); f != 0 || e != api.ErrTermVar {
				t.Error(v, x, f, e)
			}
		}
	}
	if p.Len() != len(numbers) {
		t.Error(p.Len())
	}
}

// P10.1: a variable that was refused is none of the pool's: it may be of any type later.
func TestVarRefusedIsNone(t *testing.T) {
	p := New()
	if _, e := p.Var(api.Type{Width: 5}, 3); e != api.ErrTermType {
		t.Error(e)
	}
	must(t)(p.Var(u8, 3))
	if _, e := p.Var(i8, 3); e != api.ErrTermVar {
		t.Error(e)
	}
	if f := must(t)(p.Var(u8, 3)); p.Show(f) != "v3:u8" {
		t.Error(p.Show(f))
	}
}

// P10.1: which operators there are, of how many terms of which types, and of which type what they make is.
func TestDoTypes(t *testing.T) {
	p := New()
	var vars []int
	for v, x := range allTypes {
		vars = append(vars, must(t)(p.Var(x, v)), must(t)(p.Var(x, v+20)), must(t)(p.Var(x, v+40)))
	}
	ops := slices.Concat(turnOps, []string{"u!", "ite"}, doOps, testOps, []string{"&&", "||"}, noOps)
	many := map[int]int{}
	hold := func(op string, l ...int) {
		t.Helper()
		var types []api.Type
		for _, f := range l {
			types = append(types, p.Type(f))
		}
		want, ok := typeAsked(op, types)
		before := p.Len()
		f, e := p.Do(op, l...)
		switch {
		case ok && (e != api.OK || p.Type(f) != want):
			t.Fatal(op, types, p.Type(f), e)
		case !ok && (f != 0 || e != api.ErrTermType || p.Len() != before):
			t.Fatal(op, types, f, e)
		}
		many[len(l)] += int(flagOf(ok))
	}
	for _, op := range ops {
		hold(op)
		for _, a := range vars {
			hold(op, a)
			for _, b := range vars {
				hold(op, a, b)
			}
		}
		for _, l := range triples(vars) {
			hold(op, l...)
			hold(op, append(l, l[0])...)
			hold(op, append(l, l...)...)
		}
	}
	if many[0] != 0 || many[1] != 8*3*2+3 || many[2] != 9*(8*16+7) || many[3] == 0 || many[4] != 0 || many[6] != 0 {
		t.Error(many)
	}
}

// typeAsked is the type of what an operator makes of types, as the chapter's section Words says it.
func typeAsked(op string, l []api.Type) (api.Type, bool) {
	switch len(l) {
	case 1:
		return l[0], slices.Contains(oneOps(l[0]), op)
	case 2:
		if slices.Contains(testOps, op) {
			return boolType, l[0] == l[1] && slices.Contains(pairOps(l[0]), op)
		}
		return l[0], l[0] == l[1] && slices.Contains(pairOps(l[0]), op)
	case 3:
		return l[1], op == "ite" && l[0] == boolType && l[1] == l[2]
	}
	return api.Type{}, false
}

// triples is some of three terms, of bool often.
func triples(vars []int) [][]int {
	var l [][]int
	for i, a := range vars {
		for j, b := range vars {
			l = append(l, []int{vars[0], a, b}, []int{a, b, vars[(i+j)%len(vars)]})
		}
	}
	return l
}

// P10.1: a term that isn't there, wherever it is handed in, is told ahead of all else.
func TestNoTerm(t *testing.T) {
	p := New()
	refused := func(what string, f int, e api.Errno) {
		t.Helper()
		if f != 0 || e != api.ErrTermNode {
			t.Errorf("%s: %d, %d", what, f, e)
		}
	}
	refuses := func(a, b int) {
		t.Helper()
		for _, no := range noTerms(p) {
			for _, op := range []string{"u!", "u-", "+", "<", "&&", "ite", "", "x"} {
				for _, l := range [][]int{{no}, {no, a}, {a, no}, {no, no}, {no, a, b}, {a, no, b}, {a, b, no}, {a, b, a, no}} {
					f, e := p.Do(op, l...)
					refused(op, f, e)
				}
			}
			for _, x := range append(slices.Clone(noTypes), allTypes...) {
				f, e := p.Cast(x, no)
				refused("cast", f, e)
			}
			for _, l := range [][]int{{no}, {a, no}, {no, a}, {b, no, b}, {b, b, b, no}} {
				f, e := p.All(l...)
				refused("all", f, e)
			}
			v, e := p.Eval(no, nil)
			refused("eval", int(v), e)
			for _, vars := range [][]int{nil, {0}, {0, 0}, {0, 1}, {-1}} {
				f, e := p.Put(no, vars, vars)
				refused("put", f, e)
				f, e = p.Put(a, vars, []int{no})
				refused("put", f, e)
				f, e = p.Put(a, vars, []int{a, no})
				refused("put", f, e)
			}
			op, parts := p.Parts(no)
			num, is := p.Const(no)
			if p.Type(no) != (api.Type{}) || p.Show(no) != "" || op != "" || len(parts) != 0 || num != 0 || is || len(p.Vars(no)) != 0 {
				t.Error(no, p.Type(no), p.Show(no), op, parts, num, is, p.Vars(no))
			}
		}
	}
	refuses(0, 0) // none is there
	a, b := must(t)(p.Var(u8, 0)), must(t)(p.Var(boolType, 1))
	refuses(a, b)
	must(t)(p.Do("ite", b, a, must(t)(p.Do("+", a, a))))
	refuses(a, b)
}

// P10.1: Cast to types that may not be.
func TestCastRefused(t *testing.T) {
	p := New()
	for v, x := range allTypes {
		f := must(t)(p.Var(x, v))
		before := p.Len()
		for _, no := range noTypes {
			if g, e := p.Cast(no, f); g != 0 || e != api.ErrTermType {
				t.Error(x, no, g, e)
			}
		}
		if p.Len() != before {
			t.Error(p.Len(), before)
		}
	}
}

// P10.1: All of none, of one, of many, and of others than bool.
func TestAll(t *testing.T) {
	p := New()
	var l []int
	types := map[int]api.Type{}
	for v := range 6 {
		l = append(l, must(t)(p.Var(boolType, v)))
		types[v] = boolType
	}
	x := must(t)(p.Var(u8, 6))
	if f := must(t)(p.All()); p.Show(f) != "1:bool" {
		t.Error(p.Show(f))
	}
	for n := range len(l) + 1 {
		f := must(t)(p.All(l[:n]...))
		if p.Type(f) != boolType {
			t.Error(p.Type(f))
		}
		for w := range 1 << len(l) {
			is := map[int]uint64{}
			for v := range l {
				is[v] = uint64(w >> v & 1)
			}
			got, e := p.Eval(f, values(nil, types, is))
			if want := flagOf(w&(1<<n-1) == 1<<n-1); got != want || e != api.OK {
				t.Fatal(n, w, got, e)
			}
		}
		before := p.Len()
		for i := range n + 1 {
			if f, e := p.All(slices.Insert(slices.Clone(l[:n]), i, x)...); f != 0 || e != api.ErrTermType {
				t.Error(n, i, f, e)
			}
		}
		if p.Len() != before {
			t.Error(p.Len(), before)
		}
	}
	yes, no := must(t)(p.Num(boolType, 1)), must(t)(p.Num(boolType, 0))
	for _, x := range []struct {
		l    []int
		want string
	}{{[]int{yes}, "1:bool"}, {[]int{no}, "0:bool"}, {[]int{yes, yes, yes}, "1:bool"}, {[]int{yes, no, yes}, "0:bool"}} {
		if f := must(t)(p.All(x.l...)); p.Show(f) != x.want {
			t.Error(x.l, p.Show(f))
		}
	}
}
