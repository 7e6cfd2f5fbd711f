package check

import (
	"math"
	"reflect"
	"testing"

	"skua/api"
)

// P4.2: Find.
func TestFind(t *testing.T) {
	p := right(t, "u8 x; void f() {} u8 g(u8 p) { u8 l; return p; } void main() {}")
	for name, want := range map[string]int{"f": 0, "g": 1, "main": 2, "x": -1, "p": -1, "l": -1, "": -1, "F": -1, "mai": -1, "mains": -1, "\xff": -1} {
		if got := Find(p, name); got != want {
			t.Errorf("%q: %d, want %d", name, got, want)
		}
	}
	twice := api.Prog{Funcs: []api.Func{{Name: "a"}, {Name: ""}, {Name: "b"}, {Name: "a"}, {Name: "b"}, {Name: ""}}, Main: 3}
	for name, want := range map[string]int{"a": 0, "": 1, "b": 2, "c": -1} {
		if got := Find(twice, name); got != want {
			t.Errorf("%q: %d, want %d", name, got, want)
		}
	}
	if got := Find(api.Prog{}, "main"); got != -1 {
		t.Error(got)
	}
}

// P4.2: Bits.
func TestBits(t *testing.T) {
	for src, want := range map[string]int{
		"": 0, "bool b;": 1, "u8 x; u16 y; u32 z; u64 w;": 120, "i8 x; i16 y; i32 z; i64 w;": 120, "bool b[1];": 1, "bool b[16];": 16,
		"u8 x; i16 a[3]; bool b; u64 c[2];": 185, "u64 a[16]; u64 b[16]; i64 c[16]; u64 d[16];": 4096, "void f(u8 p) { u64 l; }": 0,
	} {
		if got := Bits(right(t, src+" void main() {}")); got != want {
			t.Errorf("%q: %d, want %d", src, got, want)
		}
	}
	for _, x := range []struct {
		v    api.Var
		want int
	}{
		{api.Var{}, 0}, {api.Var{Type: api.Type{Width: 8}, Size: -3}, 8}, {api.Var{Type: api.Type{Width: 3, Signed: true}, Size: 100}, 300},
		{api.Var{Type: api.Type{Width: math.MaxInt}, Size: 2}, -2}, {api.Var{Type: api.Type{Width: -1}, Size: 5}, -5},
	} {
		if got := Bits(api.Prog{Globals: []api.Var{x.v, {Type: api.Type{Width: 1}}}}); got != x.want+1 {
			t.Errorf("%v: %d, want %d", x.v, got, x.want+1)
		}
	}
}

// sample has all fields of all kinds of things filled.
func sample() api.Prog {
	x := api.Expr{Op: "var", Type: api.Type{Width: 8, Signed: true}, Num: 3, Var: 1, Global: true, Line: 2, Col: 5}
	y := x
	y.Kids = []api.Expr{x, x}
	s := api.Stmt{Op: "assign", Line: 3, Col: 6, Target: []api.Expr{y}, Exprs: []api.Expr{x, y}, Func: 2}
	outer := s
	outer.Then, outer.Else = []api.Stmt{s, s}, []api.Stmt{s}
	v := api.Var{Name: "v", Type: api.Type{Width: 16, Signed: true}, Size: 4}
	f := api.Func{Name: "f", Type: api.Type{Width: 8, Signed: true}, Params: 1, Vars: []api.Var{v, v}, Body: []api.Stmt{outer, s}}
	return api.Prog{Globals: []api.Var{v, v}, Funcs: []api.Func{f, f}, Main: 1}
}

// P4.2: Same asks for all of both.
func TestSame(t *testing.T) {
	a, b := sample(), sample()
	held := 0
	differ := func(what string) {
		held++
		if Same(a, b) || Same(b, a) {
			t.Errorf("the same, but for %s: %v", what, b)
		}
	}
	var change func(v reflect.Value, what string)
	change = func(v reflect.Value, what string) {
		was := reflect.New(v.Type()).Elem()
		was.Set(v)
		switch v.Kind() {
		case reflect.String:
			v.SetString(v.String() + "?")
			differ(what)
		case reflect.Int:
			v.SetInt(v.Int() + 1)
			differ(what)
		case reflect.Uint64:
			v.SetUint(v.Uint() + 1<<63)
			differ(what)
		case reflect.Bool:
			v.SetBool(!v.Bool())
			differ(what)
		case reflect.Slice:
			v.Set(reflect.Append(was, reflect.Zero(v.Type().Elem())))
			differ(what + " with one more")
			if was.Len() > 0 {
				v.Set(was.Slice(0, was.Len()-1))
				differ(what + " with one less")
				v.SetZero()
				differ(what + " empty")
			}
			v.Set(was)
			for i := range v.Len() {
				change(v.Index(i), what)
			}
		case reflect.Struct:
			for i := range v.NumField() {
				change(v.Field(i), what+"."+v.Type().Field(i).Name)
			}
		default:
			t.Fatal(what)
		}
		v.Set(was)
		if !Same(a, b) || !Same(b, a) {
			t.Fatal("not the same again", what)
		}
	}
	change(reflect.ValueOf(&b).Elem(), "")
	if held < 500 {
		t.Error("too few changes", held)
	}
	a = api.Prog{Globals: []api.Var{}, Funcs: []api.Func{{Vars: []api.Var{}, Body: []api.Stmt{{Target: []api.Expr{}, Exprs: []api.Expr{{Kids: []api.Expr{}}}, Then: []api.Stmt{}, Else: []api.Stmt{}}}}}}
	b = api.Prog{Funcs: []api.Func{{Body: []api.Stmt{{Exprs: []api.Expr{{}}}}}}}
	if !Same(a, b) || !Same(b, a) || !Same(api.Prog{}, api.Prog{Globals: []api.Var{}, Funcs: []api.Func{}}) {
		t.Error("nil and empty aren't the same")
	}
}

// P4.2: places are of a program, too; what stands between tokens is not.
func TestSameOfTexts(t *testing.T) {
	a := right(t, "u8 x; void main() { x = 1; }")
	for src, want := range map[string]bool{
		"u8 x; void main() { x = 0x1; }": true, "u8 x;\tvoid main() { x = 1;\n// so\n}": true, "u8 x; void main() { x =1 ; }": false, "u8 x; void main() {  x = 1; }": false,
		"u8 x; void main() { x = 2; }": false, "i8 x; void main() { x = 1; }": false, "u8 y; void main() { y = 1; }": false, "u8 x; i8 main() { x = 1; }": false,
	} {
		if got := Same(a, right(t, src)); got != want {
			t.Errorf("%q: %v, want %v", src, got, want)
		}
	}
}
