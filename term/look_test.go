package term

import (
	"slices"
	"testing"

	"skua/api"
)

// some is a pool with terms over v0 and v1 of u8, v2 of i16 and v7 of bool, by their texts.
func some(t *testing.T) (*Pool, map[string]int) {
	t.Helper()
	p := New()
	v7, v1, v0, v2 := must(t)(p.Var(boolType, 7)), must(t)(p.Var(u8, 1)), must(t)(p.Var(u8, 0)), must(t)(p.Var(i16, 2))
	sum := must(t)(p.Do("+", v1, must(t)(p.Do("*", v0, must(t)(p.Num(u8, 3))))))
	wide := must(t)(p.Cast(i16, sum))
	ite := must(t)(p.Do("ite", v7, wide, v2))
	both := must(t)(p.Do("&&", must(t)(p.Do("u!", v7)), must(t)(p.Do("<", v0, v1))))
	quotient := must(t)(p.Do("/", v1, v0))
	turned := must(t)(p.Do("u~", must(t)(p.Do("u-", v2))))
	l := map[string]int{}
	for _, f := range []int{v7, v1, v0, v2, sum, wide, ite, both, quotient, turned} {
		l[p.Show(f)] = f
	}
	return p, l
}

// P10.2: what is told of terms of each kind: texts, types, operators with their parts, variables.
func TestTold(t *testing.T) {
	p, l := some(t)
	for _, x := range []struct {
		text, op string
		t        api.Type
		parts    []string
		vars     []api.Value
	}{
		{"v7:bool", "var", boolType, nil, []api.Value{{Var: 7, Type: boolType}}},
		{"v2:i16", "var", i16, nil, []api.Value{{Var: 2, Type: i16}}},
		{"(+ v1:u8 (* v0:u8 3:u8))", "+", u8, []string{"v1:u8", "(* v0:u8 3:u8)"}, []api.Value{{Var: 0, Type: u8}, {Var: 1, Type: u8}}},
		{"(i16 (+ v1:u8 (* v0:u8 3:u8)))", "cast", i16, []string{"(+ v1:u8 (* v0:u8 3:u8))"}, []api.Value{{Var: 0, Type: u8}, {Var: 1, Type: u8}}},
		{"(ite v7:bool (i16 (+ v1:u8 (* v0:u8 3:u8))) v2:i16)", "ite", i16, []string{"v7:bool", "(i16 (+ v1:u8 (* v0:u8 3:u8)))", "v2:i16"}, []api.Value{{Var: 0, Type: u8}, {Var: 1, Type: u8}, {Var: 2, Type: i16}, {Var: 7, Type: boolType}}},
		{"(&& (u! v7:bool) (< v0:u8 v1:u8))", "&&", boolType, []string{"(u! v7:bool)", "(< v0:u8 v1:u8)"}, []api.Value{{Var: 0, Type: u8}, {Var: 1, Type: u8}, {Var: 7, Type: boolType}}},
		{"(/ v1:u8 v0:u8)", "/", u8, []string{"v1:u8", "v0:u8"}, []api.Value{{Var: 0, Type: u8}, {Var: 1, Type: u8}}},
		{"(u~ (u- v2:i16))", "u~", i16, []string{"(u- v2:i16)"}, []api.Value{{Var: 2, Type: i16}}},
	} {
		f, there := l[x.text]
		if !there {
			t.Error(x.text, l)
			continue
		}
		op, parts := p.Parts(f)
		var texts []string
		for _, part := range parts {
			texts = append(texts, p.Show(part))
		}
		if op != x.op || !slices.Equal(texts, x.parts) || p.Type(f) != x.t {
			t.Error(x.text, op, texts, p.Type(f))
		}
		if vars := p.Vars(f); !slices.Equal(vars, x.vars) {
			t.Error(x.text, vars)
		}
		if v, is := p.Const(f); v != 0 || is {
			t.Error(x.text, v, is)
		}
	}
}

// P10.2: variables of no terms, of several, of one twice, and of ones that aren't there.
func TestVars(t *testing.T) {
	p, l := some(t)
	before := p.Len()
	v0, v1, v2, v7 := l["v0:u8"], l["v1:u8"], l["v2:i16"], l["v7:bool"]
	a, b, c, d := api.Value{Var: 0, Type: u8}, api.Value{Var: 1, Type: u8}, api.Value{Var: 2, Type: i16}, api.Value{Var: 7, Type: boolType}
	for _, x := range []struct {
		l    []int
		want []api.Value
	}{
		{nil, nil}, {[]int{v7}, []api.Value{d}}, {[]int{v7, v0}, []api.Value{a, d}}, {[]int{v0, v7}, []api.Value{a, d}}, {[]int{v1, v1, v1}, []api.Value{b}},
		{[]int{v7, v2, v1, v0}, []api.Value{a, b, c, d}}, {[]int{-1}, nil}, {noTerms(p), nil}, {append(noTerms(p), v2, -5, v0), []api.Value{a, c}},
		{[]int{l["(u~ (u- v2:i16))"], 999, l["(/ v1:u8 v0:u8)"], v2, v1}, []api.Value{a, b, c}},
	} {
		if got := p.Vars(x.l...); !slices.Equal(got, x.want) {
			t.Error(x.l, got)
		}
	}
	if p.Len() != before {
		t.Error(p.Len(), before)
	}
}

// P10.2: Eval: more is told than asked, in any order, beyond 2^Width, of one variable twice; too little; of other types.
func TestEval(t *testing.T) {
	p, l := some(t)
	before := p.Len()
	ite, wide := l["(ite v7:bool (i16 (+ v1:u8 (* v0:u8 3:u8))) v2:i16)"], l["(i16 (+ v1:u8 (* v0:u8 3:u8)))"]
	for i, x := range []struct {
		f    int
		is   []api.Value
		want uint64
		e    api.Errno
	}{
		{wide, []api.Value{{Var: 0, Type: u8, Num: 2}, {Var: 1, Type: u8, Num: 1}}, 7, 0},
		{wide, []api.Value{{Var: 1, Type: u8, Num: 1}, {Var: 5, Type: api.Type{Width: 3}, Num: 1}, {Var: -1}, {Var: 0, Type: u8, Num: 258}}, 7, 0},
		{wide, []api.Value{{Var: 1, Type: u8, Num: 250}, {Var: 0, Type: u8, Num: 4}}, 6, 0},
		{wide, []api.Value{{Var: 0, Type: u8, Num: 2}, {Var: 1, Type: u8, Num: 1}, {Var: 0, Type: u8, Num: 9}, {Var: 1, Type: u8, Num: 9}}, 7, 0},
		{wide, []api.Value{{Var: 0, Type: u8, Num: 2}, {Var: 1, Type: u8, Num: 1}, {Var: 2, Type: u8}, {Var: 7, Type: u8}}, 7, 0}, // of variables that aren't asked any type may be told
		{wide, []api.Value{{Var: 0, Type: u8, Num: 2}, {Var: 1, Type: u8, Num: 1}, {Var: 0, Type: i16, Num: 9}}, 7, 0},            // the first one counts
		{wide, []api.Value{{Var: 0, Type: i16, Num: 2}, {Var: 1, Type: u8, Num: 1}, {Var: 0, Type: u8, Num: 9}}, 0, api.ErrTermVar},
		{wide, []api.Value{{Var: 0, Type: i8, Num: 2}, {Var: 1, Type: u8, Num: 1}}, 0, api.ErrTermVar},
		{wide, []api.Value{{Var: 0, Num: 2}, {Var: 1, Type: u8, Num: 1}}, 0, api.ErrTermVar},
		{wide, []api.Value{{Var: 0, Type: u8, Num: 2}}, 0, api.ErrTermVar},
		{wide, []api.Value{{Var: 1, Type: u8, Num: 2}, {Var: 2, Type: i16}}, 0, api.ErrTermVar},
		{wide, nil, 0, api.ErrTermVar},
		// both branches' variables are asked for, whichever one it is
		{ite, []api.Value{{Var: 7, Type: boolType, Num: 1}, {Var: 0, Type: u8, Num: 2}, {Var: 1, Type: u8, Num: 1}}, 0, api.ErrTermVar},
		{ite, []api.Value{{Var: 7, Type: boolType}, {Var: 2, Type: i16, Num: 2}}, 0, api.ErrTermVar},
		{ite, []api.Value{{Var: 7, Type: boolType, Num: 3}, {Var: 0, Type: u8, Num: 2}, {Var: 1, Type: u8, Num: 1}, {Var: 2, Type: i16, Num: 1 << 17}}, 7, 0},
		{ite, []api.Value{{Var: 7, Type: boolType, Num: 2}, {Var: 0, Type: u8, Num: 2}, {Var: 1, Type: u8, Num: 1}, {Var: 2, Type: i16, Num: 1<<17 - 2}}, 1<<16 - 2, 0},
		{l["(/ v1:u8 v0:u8)"], []api.Value{{Var: 0, Type: u8}, {Var: 1, Type: u8, Num: 1}}, 0, 0},
		{l["(u~ (u- v2:i16))"], []api.Value{{Var: 2, Type: i16, Num: 5}}, 4, 0},
	} {
		if v, e := p.Eval(x.f, x.is); v != x.want || e != x.e {
			t.Error(i, v, e)
		}
	}
	if p.Len() != before {
		t.Error(p.Len(), before)
	}
}

// P10.2, P10.3: Len counts each term once, however often it is asked for.
func TestLen(t *testing.T) {
	p := New()
	for range 3 {
		x, y := must(t)(p.Var(u8, 0)), must(t)(p.Var(u8, 1))
		three := must(t)(p.Num(u8, 259))
		must(t)(p.Do("+", x, must(t)(p.Do("*", y, three))))
		must(t)(p.Cast(u16, x))
		if p.Len() != 6 {
			t.Error(p.Len())
		}
	}
	x, y := must(t)(p.Var(u8, 0)), must(t)(p.Var(u8, 1))
	if sum := must(t)(p.Do("+", y, x)); p.Len() != 7 || p.Show(sum) != "(+ v1:u8 v0:u8)" {
		t.Error(p.Len(), p.Show(sum))
	}
	before := p.Len()
	p.Do("+", x, p.Len())
	p.Do("&&", x, y)
	p.Cast(api.Type{Width: 3}, x)
	p.All(x)
	p.Put(x, []int{0}, nil)
	p.Show(x)
	p.Parts(x)
	p.Const(x)
	if p.Len() != before {
		t.Error(p.Len(), before)
	}
}
