package check

import (
	"reflect"
	"strconv"
	"strings"
	"testing"
	"unsafe"

	"skua/api"
	"skua/parse"
	"skua/word"
)

// typeName is a type's name, void included.
func typeName(t api.Type) string {
	if t == (api.Type{}) {
		return "void"
	}
	return word.Name(t)
}

// teller writes programs as texts: with the places of statements and expressions, or without.
type teller struct{ places bool }

func (t teller) at(line, col int) string {
	if !t.places {
		return ""
	}
	return "@" + strconv.Itoa(line) + "," + strconv.Itoa(col)
}

func (t teller) exprs(l []api.Expr) string {
	s := ""
	for _, x := range l {
		s += " " + t.expr(x)
	}
	return s
}

// expr is n and a number, g (a global) or v and a variable, or an operator in parentheses; each with its type.
func (t teller) expr(x api.Expr) string {
	of := ":" + typeName(x.Type) + t.at(x.Line, x.Col)
	name := "v" + strconv.Itoa(x.Var)
	if x.Global {
		name = "g" + strconv.Itoa(x.Var)
	}
	switch x.Op {
	case "num":
		return "n" + strconv.FormatUint(x.Num, 10) + of
	case "var":
		return name + of
	case "index":
		return name + "[" + t.exprs(x.Kids)[1:] + "]" + of
	}
	return "(" + x.Op + of + t.exprs(x.Kids) + ")"
}

func (t teller) stmts(l []api.Stmt) string {
	s := "{"
	for _, x := range l {
		s += " " + x.Op + t.at(x.Line, x.Col) + t.exprs(x.Target)
		if x.Op == "call" {
			s += " f" + strconv.Itoa(x.Func)
		}
		s += t.exprs(x.Exprs)
		if x.Op == "if" || x.Op == "while" {
			s += " " + t.stmts(x.Then)
		}
		if len(x.Else) > 0 {
			s += " else " + t.stmts(x.Else)
		}
		s += ";"
	}
	return s + " }"
}

func (t teller) vars(l []api.Var) string {
	s := ""
	for _, v := range l {
		s += " " + typeName(v.Type) + " " + v.Name
		if v.Size != 0 {
			s += "[" + strconv.Itoa(v.Size) + "]"
		}
	}
	return s
}

func (t teller) prog(p api.Prog) string {
	s := "main " + strconv.Itoa(p.Main) + t.vars(p.Globals)
	for _, f := range p.Funcs {
		s += " " + typeName(f.Type) + " " + f.Name + "/" + strconv.Itoa(f.Params) + t.vars(f.Vars) + " " + t.stmts(f.Body)
	}
	return s
}

// equal is whether two values are the same in all their fields, nil and empty lists being one.
func equal(a, b any) bool { return equalValues(reflect.ValueOf(a), reflect.ValueOf(b)) }

func equalValues(a, b reflect.Value) bool {
	switch a.Kind() {
	case reflect.Slice:
		is := a.Len() == b.Len()
		for i := 0; is && i < a.Len(); i++ {
			is = equalValues(a.Index(i), b.Index(i))
		}
		return is
	case reflect.Struct:
		for i := range a.NumField() {
			if !equalValues(a.Field(i), b.Field(i)) {
				return false
			}
		}
		return true
	}
	return a.Interface() == b.Interface()
}

// right is a program that must be right.
func right(t *testing.T, src string) api.Prog {
	t.Helper()
	p, line, col, e := Read(src)
	if line != 0 || col != 0 || e != api.OK {
		t.Errorf("%q: %d, %d, %d", src, line, col, e)
	}
	return p
}

// wrong reads a program in which $ stands ahead of what is wrong; without a $ the place is 0 and 0.
func wrong(t *testing.T, marked string, want api.Errno) {
	t.Helper()
	line, col := 0, 0
	src := strings.Replace(marked, "$", "", 1)
	if ahead, _, is := strings.Cut(marked, "$"); is {
		line = strings.Count(ahead, "\n") + 1
		col = len(ahead) - strings.LastIndexByte(ahead, '\n')
	}
	p, l, c, e := Read(src)
	if !equal(p, api.Prog{}) || l != line || c != col || e != want {
		t.Errorf("%q: %d, %d, %d, want %d, %d, %d; %v", marked, l, c, e, line, col, want, p)
	}
}

// P4.1: programs, typed.
func TestTyped(t *testing.T) {
	for _, x := range []struct{ src, want string }{
		{"void main() {}", "main 0 void main/0 { }"},
		{"i8 main() { return -1; } bool b;", "main 0 bool b i8 main/0 { return (u-:i8 n1:i8); }"},
		{"bool b; u8 c[1]; void f() {} i64 d[16]; i16 main() { return 0; } u32 e;", "main 1 bool b u8 c[1] i64 d[16] u32 e void f/0 { } i16 main/0 { return n0:i16; }"},
		// parameters ahead of locals, which are no statements, wherever they stand
		{"u8 f(u8 p, bool q) { u16 l; l = 1; if (q) { i8 m; m = 2; while (q) { i32 k; } } else { u64 n; n = 3; } return p; } void main() {}",
			"main 1 u8 f/2 u8 p bool q u16 l i8 m i32 k u64 n { assign v2:u16 n1:u16; if v1:bool { assign v3:i8 n2:i8; while v1:bool { }; } else { assign v5:u64 n3:u64; }; return v0:u8; } void main/0 { }"},
		// a local's name is seen behind its block, too, but not ahead of it: there a global's is
		{"u8 x; void main() { x = 1; if (true) { u16 x; x = 2; } x = 3; }", "main 0 u8 x void main/0 u16 x { assign g0:u8 n1:u8; if n1:bool { assign v0:u16 n2:u16; }; assign v0:u16 n3:u16; }"},
		{"void f(u8 x) { x = 1; } void main() { x = 2; } i8 x;", "main 1 i8 x void f/1 u8 x { assign v0:u8 n1:u8; } void main/0 { assign g0:i8 n2:i8; }"},
		// names of functions are no variables', and the other way round
		{"u8 f(u8 f) { f = f(f); return f; } void main() { u8 main; main = f(main); main(); }",
			"main 1 u8 f/1 u8 f { call v0:u8 f0 v0:u8; return v0:u8; } void main/0 u8 main { call v0:u8 f0 v0:u8; call f1; }"},
		{"u8 x; void main() { x = nondet(); assert(x != 0); assume(true); g(); x = g(); return; } u8 g() { return 255; }",
			"main 0 u8 x void main/0 { nondet g0:u8; assert (!=:bool g0:u8 n0:u8); assume n1:bool; call f1; call g0:u8 f1; return; } u8 g/0 { return n255:u8; }"},
		{"u8 a[2]; i8 k; void main() { a[k] = nondet(); a[1] = f(a[0], k == 1); f(1, false); } u8 f(u8 p, bool q) { return p; }",
			"main 0 u8 a[2] i8 k void main/0 { nondet g0[g1:i8]:u8; call g0[n1:u64]:u8 f1 g0[n0:u64]:u8 (==:bool g1:i8 n1:i8); call f1 n1:u8 n0:bool; } u8 f/2 u8 p bool q { return v0:u8; }"},
		// what an index suggests is its own affair
		{"bool a[3]; u16 k[4]; void main() { a[k[1] + 2] = a[(i8)3 - 1] | a[-1]; }",
			"main 0 bool a[3] u16 k[4] void main/0 { assign g0[(+:u16 g1[n1:u64]:u16 n2:u16)]:bool (|:bool g0[(-:i8 (cast:i8 n3:u64) n1:i8)]:bool g0[(u-:u64 n1:u64)]:bool); }"},
		// a cast's operand has the type that it suggests
		{"u8 x; void main() { x = (u8)(x < 1) + (u8)300 + (u8)(i16)-x + (u8)true; }",
			"main 0 u8 x void main/0 { assign g0:u8 (+:u8 (+:u8 (+:u8 (cast:u8 (<:bool g0:u8 n1:u8)) (cast:u8 n300:u64)) (cast:u8 (cast:i16 (u-:u8 g0:u8)))) (cast:u8 n1:bool)); }"},
		{"u8 x; bool b; void main() { b = (bool)x && (bool)2 || (bool)b; }",
			"main 0 u8 x bool b void main/0 { assign g1:bool (||:bool (&&:bool (cast:bool g0:u8) (cast:bool n2:u64)) (cast:bool g1:bool)); }"},
		// a comparison's operands have the type that the left one suggests, else the right one, else u64
		{"i8 x; void main() { assert(x < 1); assert(1 < x); assert(300 < 301); assert(-1 + 2 >= ~(3 * x)); assert(true != (1 == 2)); }",
			"main 0 i8 x void main/0 { assert (<:bool g0:i8 n1:i8); assert (<:bool n1:i8 g0:i8); assert (<:bool n300:u64 n301:u64); assert (>=:bool (+:i8 (u-:i8 n1:i8) n2:i8) (u~:i8 (*:i8 n3:i8 g0:i8))); assert (!=:bool n1:bool (==:bool n1:u64 n2:u64)); }"},
		{"u16 x; void main() { x = x << 300 >> x / 7 % 1000; }", "main 0 u16 x void main/0 { assign g0:u16 (>>:u16 (<<:u16 g0:u16 n300:u16) (%:u16 (/:u16 g0:u16 n7:u16) n1000:u16)); }"},
		{"u16 x; bool b; void main() { x = x & 1 | 2 ^ x; b = b & true | !b ^ false; }",
			"main 0 u16 x bool b void main/0 { assign g0:u16 (|:u16 (&:u16 g0:u16 n1:u16) (^:u16 n2:u16 g0:u16)); assign g1:bool (|:bool (&:bool g1:bool n1:bool) (^:bool (u!:bool g1:bool) n0:bool)); }"},
	} {
		if got := (teller{}).prog(right(t, x.src)); got != x.want {
			t.Errorf("%q:\n%s, want\n%s", x.src, got, x.want)
		}
	}
}

// P4.1: where statements and expressions stand.
func TestTypedPlaces(t *testing.T) {
	src := "u8 x; u8 a[2]; u8 f(u8 p) {\nreturn p + 1 ; } void main() {\n x = ( x\n+ 1); a [x] = nondet();\n f(x); x =\n f( (x) ); if (!true) { return; }\n else { assert( (u8) - 2 == 3); } while (false) { assume(\ta[ 1 ] < 2 && true); } }"
	want := "main 1 u8 x u8 a[2] u8 f/1 u8 p { return@2,1 (+:u8@2,10 v0:u8@2,8 n1:u8@2,12); }" +
		" void main/0 { assign@3,2 g0:u8@3,2 (+:u8@4,1 g0:u8@3,8 n1:u8@4,3); nondet@4,7 g1[g0:u8@4,10]:u8@4,7;" +
		" call@5,2 f0 g0:u8@5,4; call@5,8 g0:u8@5,8 f0 g0:u8@6,6; if@6,12 (u!:bool@6,16 n1:bool@6,17) { return@6,25; }" +
		" else { assert@7,9 (==:bool@7,26 (cast:u8@7,17 (u-:u64@7,22 n2:u64@7,24)) n3:u8@7,29); };" +
		" while@7,35 n0:bool@7,42 { assume@7,51 (&&:bool@7,70 (<:bool@7,66 g1[n1:u64@7,62]:u8@7,59 n2:u8@7,68) n1:bool@7,73); }; }"
	if got := (teller{true}).prog(right(t, src)); got != want {
		t.Errorf("%s, want\n%s", got, want)
	}
}

// P4.1: numbers, of every type.
func TestNumbers(t *testing.T) {
	for _, name := range strings.Fields("u8 u16 u32 u64 i8 i16 i32 i64") {
		of, _ := word.Of(name)
		most := uint64(1)<<(of.Width-1)<<1 - 1
		for _, num := range []uint64{0, 1, most/2 + 1, most} {
			p := right(t, name+" x; void main() { x = "+strconv.FormatUint(num, 10)+"; }")
			want := api.Expr{Op: "num", Type: of, Num: num, Line: 1, Col: len(name) + 23}
			if got := p.Funcs[0].Body[0].Exprs[0]; !equal(got, want) {
				t.Errorf("%s: %v, want %v", name, got, want)
			}
		}
		if of.Width < 64 {
			wrong(t, name+" x; void main() { x = $"+strconv.FormatUint(most+1, 10)+"; }", api.ErrCheckType)
			wrong(t, name+" x; void main() { x = x + $0xFFFFFFFFFFFFFFFF; }", api.ErrCheckType)
		}
	}
	wrong(t, "bool b; void main() { b = $1; }", api.ErrCheckType)
	wrong(t, "bool b; void main() { b = b == $0; }", api.ErrCheckType)
}

// P4.1: what chapters 2 and 3 tell of a text.
func TestReadErrors(t *testing.T) {
	for src, want := range map[string][3]int{
		"u8 $; void main() { x = 1; }":                        {1, 4, int(api.ErrLexByte)},
		"void main() { x = 0x; }":                             {1, 19, int(api.ErrLexNumber)},
		strings.Repeat(" ", api.MaxSource) + "x":              {0, 0, int(api.ErrLexLong)},
		"u8 x":                                                {1, 5, int(api.ErrParseToken)},
		"void main() { x = y; }\n}":                           {2, 1, int(api.ErrParseToken)},
		"void main() { x = " + strings.Repeat("(", 100) + "1": {1, 79, int(api.ErrParseDeep)},
		"": {0, 0, int(api.ErrCheckMain)},
	} {
		p, line, col, e := Read(src)
		if !equal(p, api.Prog{}) || [3]int{line, col, int(e)} != want {
			t.Errorf("%.40q: %d, %d, %d, want %v", src, line, col, e, want)
		}
	}
}

// spoil changes all that a tree's lists hold.
func spoil(n *api.Node) {
	for i := range n.Kids {
		spoil(&n.Kids[i])
	}
	n.Kind, n.Text, n.Num, n.Line, n.Col = "spoilt", "spoilt", 99, 99, 99
}

// bytewise is a tree whose texts are pieces of memory that can be changed.
func bytewise(n api.Node, all *[][]byte) api.Node {
	anew := func(s string) string {
		if s == "" {
			return s
		}
		b := []byte(s)
		*all = append(*all, b)
		return unsafe.String(&b[0], len(b))
	}
	n.Kind, n.Text = anew(n.Kind), anew(n.Text)
	kids := make([]api.Node, len(n.Kids), len(n.Kids)+3)
	for i, k := range n.Kids {
		kids[i] = bytewise(k, all)
	}
	n.Kids = kids
	return n
}

// P4.1: what is handed in is neither changed nor kept.
func TestCheckLeavesAndAnswersAnew(t *testing.T) {
	src := "u8 x; i8 a[2]; u8 f(u8 p, bool q) { u8 l; l = ~p; return -l; } void main() { a[1] = (i8)x; if (x < 1 && true) { x = f(1, !false); } else { x = nondet(); } }"
	n, _, _, _ := parse.Read(src)
	want, line, col, e := Check(n)
	if again, _, _, _ := parse.Read(src); !equal(n, again) || line != 0 || col != 0 || e != api.OK {
		t.Fatal("the tree is changed", line, col, e)
	}
	spoil(&n)
	if !equal(want, right(t, src)) {
		t.Error("the answer has lists of the tree")
	}
	n, _, _, _ = parse.Read(src)
	var all [][]byte
	n = bytewise(n, &all)
	got, _, _, _ := Check(n)
	for _, b := range all {
		for i := range b {
			b[i] = '?'
		}
	}
	if !equal(got, want) {
		t.Error("the answer has texts of the tree")
	}
	again := right(t, src)
	again.Funcs[1].Body[0].Exprs[0].Kids[0].Num = 7
	again.Funcs[0].Vars[0].Name = "other"
	if !equal(right(t, src), want) {
		t.Error("an answer has lists of another one")
	}
}

// P1: trees that are no program's have some answer.
func TestOtherTrees(t *testing.T) {
	base := "u8 x; i8 a[2]; u8 f(u8 p, bool q) { u8 l; l = ~p; return -l; } void main() { a[1] = (i8)x; g: while (x < 1) { f(1, !true); x = f(x, a[0] == 1); x = nondet(); } if (true) {} else { assert(false); assume(true || x == 2); } return; }"
	n, _, _, e := parse.Read(strings.Replace(base, "g: ", "", 1))
	if e != api.OK {
		t.Fatal(e)
	}
	try := func() {
		p, line, col, e := Check(n)
		if e != api.OK && !equal(p, api.Prog{}) || e == api.OK && (line != 0 || col != 0) {
			t.Fatalf("%v: %v, %d, %d, %d", n, p, line, col, e)
		}
	}
	var each func(at *api.Node)
	each = func(at *api.Node) {
		was := *at
		for _, kind := range strings.Fields("? program type global func param block local assign nondet call result if while return assert assume name index binary unary cast num true false") {
			at.Kind = kind
			try()
		}
		*at = was
		for _, text := range []string{"", "x", "a", "f", "main", "u8", "void", "bool", "+", "!", "&&", "<", "?", "\xff"} {
			at.Text = text
			try()
		}
		*at = was
		for _, num := range []uint64{0, 1, 17, 1 << 63, 1<<64 - 1} {
			at.Num = num
			try()
		}
		*at = was
		at.Line, at.Col = -1, -1<<63
		try()
		*at = was
		for size := range len(was.Kids) {
			at.Kids = was.Kids[:size]
			try()
		}
		for _, more := range was.Kids {
			at.Kids = append(was.Kids[:len(was.Kids):len(was.Kids)], more)
			try()
			at.Kids = []api.Node{more}
			try()
		}
		*at = was
		for i := range at.Kids {
			each(&at.Kids[i])
		}
	}
	each(&n)
	n = api.Node{}
	try()
	if !equal(n, api.Node{}) {
		t.Error(n)
	}
}

// inMain is the tree of a program whose main has one statement.
func inMain(s api.Node) api.Node {
	typed := func(kind, name, of string) api.Node {
		return api.Node{Kind: kind, Text: name, Kids: []api.Node{{Kind: "type", Text: of}}}
	}
	main := typed("func", "main", "void")
	main.Kids = append(main.Kids, api.Node{Kind: "block", Kids: []api.Node{s}})
	array := typed("global", "a", "u8")
	array.Kids = append(array.Kids, api.Node{Kind: "num", Num: 2})
	return api.Node{Kind: "program", Kids: []api.Node{typed("global", "x", "u8"), array, main}}
}

// P1: a tree may be as deep as the document lets what is given be; that takes no longer the deeper it is, for each of its nodes.
func TestDeepTrees(t *testing.T) {
	const deep = 1<<16 - 10
	x := api.Node{Kind: "name", Text: "x"}
	one := api.Node{Kind: "num", Num: 1}
	yes := api.Node{Kind: "true"}
	nest := func(n api.Node, in func(n api.Node) api.Node) api.Node {
		for range deep {
			n = in(n)
		}
		return n
	}
	of := func(kind, text string, kids ...api.Node) api.Node {
		return api.Node{Kind: kind, Text: text, Kids: kids}
	}
	for name, n := range map[string]api.Node{
		"unary": of("assign", "", x, nest(x, func(n api.Node) api.Node { return of("unary", "-", n) })),
		"left":  of("assign", "", x, nest(x, func(n api.Node) api.Node { return of("binary", "+", n, one) })),
		"right": of("assign", "", x, nest(x, func(n api.Node) api.Node { return of("binary", "-", one, n) })),
		"cast":  of("assign", "", x, nest(one, func(n api.Node) api.Node { return of("cast", "u8", n) })),
		"not":   of("assert", "", nest(yes, func(n api.Node) api.Node { return of("unary", "!", n) })),
		"equal": of("assert", "", nest(yes, func(n api.Node) api.Node { return of("binary", "==", n, yes) })),
		"turn": of("assert", "", of("binary", "==", nest(one, func(n api.Node) api.Node {
			return of("unary", "~", n)
		}), nest(one, func(n api.Node) api.Node { return of("binary", "*", one, n) }))),
		"index": of("assign", "", x, nest(one, func(n api.Node) api.Node { return of("index", "a", n) })),
		"if":    nest(of("return", ""), func(n api.Node) api.Node { return of("if", "", yes, of("block", "", n)) }),
		"else": nest(of("return", ""), func(n api.Node) api.Node {
			return of("if", "", yes, of("block", ""), of("block", "", n))
		}),
	} {
		p, line, col, e := Check(inMain(n))
		if line != 0 || col != 0 || e != api.OK || !Same(p, p) {
			t.Error(name, line, col, e)
		}
	}
}

// P4.1: the greatest texts that may be.
func TestLongPrograms(t *testing.T) {
	fill := func(begin, with, end string) string {
		return begin + strings.Repeat(with, (api.MaxSource-len(begin)-len(end))/len(with)) + end
	}
	right(t, fill("u8 x;void main(){x=1", "+1", ";}"))
	right(t, fill("u8 x;void main(){assert(1", "+1", "<x);}"))
	right(t, fill("bool b;void main(){b=b", "==b", ";}"))
	right(t, fill("u8 x;void main(){", "x=1;", "}"))
	wrong(t, fill("bool b;void main(){b=b", "==b", "==$1;}"), api.ErrCheckType)
}
