package parse

import (
	"slices"
	"strconv"
	"strings"
	"testing"
	"unsafe"

	"skua/api"
	"skua/lex"
)

// told is a tree as a text: kinds, texts, numbers, places, and kids in parentheses.
func told(n api.Node, places bool) string {
	s := n.Kind
	if n.Text != "" {
		s += ":" + n.Text
	}
	if n.Num != 0 || n.Kind == "num" {
		s += "#" + strconv.FormatUint(n.Num, 10)
	}
	if places {
		s += "@" + strconv.Itoa(n.Line) + "," + strconv.Itoa(n.Col)
	}
	if len(n.Kids) == 0 {
		return s
	}
	var l []string
	for _, k := range n.Kids {
		l = append(l, told(k, places))
	}
	return s + "(" + strings.Join(l, " ") + ")"
}

// inMain is the tree of a function's statements.
func inMain(s string) string { return "program(func:f(type:void block(" + s + ")))" }

// P3.1: trees written out, without their places.
func TestParseTrees(t *testing.T) {
	for _, x := range []struct{ src, want string }{
		{"u8 x; void f() { x = x + 1 * 2; }", "program(global:x(type:u8) func:f(type:void block(assign(name:x binary:+(name:x binary:*(num#1 num#2))))))"},
		{"", "program"}, {"// nothing\n", "program"},
		{"bool b; u8 a; u16 c; u32 d; u64 e; i8 g; i16 h; i32 i; i64 j;", "program(global:b(type:bool) global:a(type:u8) global:c(type:u16) global:d(type:u32) global:e(type:u64) global:g(type:i8) global:h(type:i16) global:i(type:i32) global:j(type:i64))"},
		{"u8 a[0]; u8 b[0x10]; u8 c[18446744073709551615];", "program(global:a(type:u8 num#0) global:b(type:u8 num#16) global:c(type:u8 num#18446744073709551615))"},
		{"u8 f() {} void g(i8 p) {} bool h(bool p, bool p, u64 q) {}", "program(func:f(type:u8 block) func:g(type:void param:p(type:i8) block) func:h(type:bool param:p(type:bool) param:p(type:bool) param:q(type:u64) block))"},
		{"void f() {} u8 x; void f() {} u8 x;", "program(func:f(type:void block) global:x(type:u8) func:f(type:void block) global:x(type:u8))"},
		{"void f() { u8 x; x = 1; x = nondet(); g(); x = g(); return; }", inMain("local:x(type:u8) assign(name:x num#1) nondet(name:x) call:g result(name:x call:g) return")},
		{"void f() { a[1] = 2; a[x] = nondet(); a[b[0]] = g(1, x); g(a[0]); }", inMain("assign(index:a(num#1) num#2) nondet(index:a(name:x)) result(index:a(index:b(num#0)) call:g(num#1 name:x)) call:g(index:a(num#0))")},
		{"void f() { if (x) { } if (x) { return; } else { } if (x) { if (y) { } else { } } }", inMain("if(name:x block) if(name:x block(return) block) if(name:x block(if(name:y block block)))")},
		{"void f() { while (true) { while (false) { } } assert(x); assume(!x); return x; }", inMain("while(true block(while(false block))) assert(name:x) assume(unary:!(name:x)) return(name:x)")},
		// parentheses leave nothing behind
		{"void f() { x = (((y))); x = (1); x = (true); }", inMain("assign(name:x name:y) assign(name:x num#1) assign(name:x true)")},
		{"void f() { x = (a + b) * (c); x = ((a) + (b * c)); return ((x)); g((x), (1)); a[(x)] = (a[(1)]); }", inMain("assign(name:x binary:*(binary:+(name:a name:b) name:c)) assign(name:x binary:+(name:a binary:*(name:b name:c))) return(name:x) call:g(name:x num#1) assign(index:a(name:x) index:a(num#1))")},
		// unary operators and casts bind tighter than those of two operands
		{"void f() { x = -a - -b; x = !a == ~b; x = - ! ~ - a; x = -a[1]; x = -(a + b); }", inMain("assign(name:x binary:-(unary:-(name:a) unary:-(name:b))) assign(name:x binary:==(unary:!(name:a) unary:~(name:b))) assign(name:x unary:-(unary:!(unary:~(unary:-(name:a))))) assign(name:x unary:-(index:a(num#1))) assign(name:x unary:-(binary:+(name:a name:b)))")},
		{"void f() { x = (u8)a + (i8)b; x = (u8)(i8)-a; x = -(bool)a; x = (u64)(a + b); x = (i64)((i32)a); x = (u16)a[1]; }", inMain("assign(name:x binary:+(cast:u8(name:a) cast:i8(name:b))) assign(name:x cast:u8(cast:i8(unary:-(name:a)))) assign(name:x unary:-(cast:bool(name:a))) assign(name:x cast:u64(binary:+(name:a name:b))) assign(name:x cast:i64(cast:i32(name:a))) assign(name:x cast:u16(index:a(num#1)))")},
		{"void f() { x = a | b ^ c & d == e < g << h + i * j; }", inMain("assign(name:x binary:|(name:a binary:^(name:b binary:&(name:c binary:==(name:d binary:<(name:e binary:<<(name:g binary:+(name:h binary:*(name:i name:j)))))))))")},
		{"void f() { x = a * b + c << d < e == g & h ^ i | j && k || l; }", inMain("assign(name:x binary:||(binary:&&(binary:|(binary:^(binary:&(binary:==(binary:<(binary:<<(binary:+(binary:*(name:a name:b) name:c) name:d) name:e) name:g) name:h) name:i) name:j) name:k) name:l))")},
		// a name with a parenthesis behind it begins a call, alone and behind =
		{"void f() { x = g((1)); x = (g); }", inMain("result(name:x call:g(num#1)) assign(name:x name:g)")},
	} {
		n, line, col, e := Read(x.src)
		if told(n, false) != x.want || line != 0 || col != 0 || e != api.OK {
			t.Errorf("%q: %s, %d, %d, %d, want %s", x.src, told(n, false), line, col, e, x.want)
		}
	}
}

// P3.1: where nodes stand.
func TestParsePlaces(t *testing.T) {
	for _, x := range []struct{ src, want string }{
		{"", "program@1,1"}, {"\n  ", "program@2,3"}, {"// c\n u8\nx;", "program@2,2(global:x@2,2(type:u8@2,2))"},
		{" u8 a[ 3 ];", "program@1,2(global:a@1,2(type:u8@1,2 num#3@1,8))"},
		{"u8 f(u8 p,\nbool q)\n {\n}", "program@1,1(func:f@1,1(type:u8@1,1 param:p@1,6(type:u8@1,6) param:q@2,1(type:bool@2,1) block@3,2))"},
		{"void f() {\nu8 x;\n a[1] = (2);\nx = nondet();\n\tx = g(y , 1);\ng();\n}", "program@1,1(func:f@1,1(type:void@1,1 block@1,10(local:x@2,1(type:u8@2,1) assign@3,2(index:a@3,2(num#1@3,4) num#2@3,10) nondet@4,1(name:x@4,1) result@5,2(name:x@5,2 call:g@5,6(name:y@5,8 num#1@5,12)) call:g@6,1)))"},
		{"void f() {\nif (x) { } else\n { }\nwhile\n(true)\n{ return ; }\nreturn false; assert(x);\nassume ( !x ); }", "program@1,1(func:f@1,1(type:void@1,1 block@1,10(if@2,1(name:x@2,5 block@2,8 block@3,2) while@4,1(true@5,2 block@6,1(return@6,3)) return@7,1(false@7,8) assert@7,15(name:x@7,22) assume@8,1(unary:!@8,10(name:x@8,11)))))"},
		// of a binary node where its operator stands, whatever parentheses there are
		{"void f() {\nx =\n((a) + b)\n* - (\n(u8) c - d); }", "program@1,1(func:f@1,1(type:void@1,1 block@1,10(assign@2,1(name:x@2,1 binary:*@4,1(binary:+@3,6(name:a@3,3 name:b@3,8) unary:-@4,3(binary:-@5,8(cast:u8@5,1(name:c@5,6) name:d@5,10)))))))"},
	} {
		n, _, _, e := Read(x.src)
		if told(n, true) != x.want || e != api.OK {
			t.Errorf("%q: %d\n%s, want\n%s", x.src, e, told(n, true), x.want)
		}
	}
}

// P3.1: how any two and any three operators bind.
func TestEveryFewOperators(t *testing.T) {
	ops := allBinaries()
	if len(ops) != 18 {
		t.Fatal(len(ops))
	}
	join := func(op, a, b string) string { return "binary:" + op + "(" + a + " " + b + ")" }
	two := func(o, p, a, b, c string) string {
		if row(p) > row(o) {
			return join(o, a, join(p, b, c))
		}
		return join(p, join(o, a, b), c)
	}
	same := func(src, want string) {
		n, _, _, e := Read("void f() { x = " + src + "; }")
		if got := told(n, false); got != inMain("assign(name:x "+want+")") || e != api.OK {
			t.Fatalf("%s: %s, %d, want %s", src, got, e, want)
		}
	}
	for _, o := range ops {
		same("a"+o+"b", join(o, "name:a", "name:b"))
		for _, p := range ops {
			same("a "+o+" b "+p+" c", two(o, p, "name:a", "name:b", "name:c"))
			same("a "+o+" (b "+p+" c)", join(o, "name:a", join(p, "name:b", "name:c")))
			same("(a "+o+" b) "+p+" c", join(p, join(o, "name:a", "name:b"), "name:c"))
			for _, q := range ops {
				want := ""
				switch { // the loosest one is the outermost; of those that bind alike the last
				case row(q) <= row(o) && row(q) <= row(p):
					want = join(q, two(o, p, "name:a", "name:b", "name:c"), "name:d")
				case row(p) <= row(o):
					want = join(p, join(o, "name:a", "name:b"), join(q, "name:c", "name:d"))
				default:
					want = join(o, "name:a", two(p, q, "name:b", "name:c", "name:d"))
				}
				same("a "+o+" b "+p+" c "+q+" d", want)
			}
		}
	}
}

// P3.1: trees made by chance, written in any way in which the grammar lets them be, are read with all their places.
func TestReadWhatIsWritten(t *testing.T) {
	for seed := range uint64(4000) {
		m := newMaker(seed)
		src, want := printed(m.program(int(seed%5)), &m)
		n, line, col, e := Read(src)
		if told(n, true) != told(want, true) || line != 0 || col != 0 || e != api.OK {
			t.Fatalf("%q: %d, %d, %d\n%s, want\n%s", src, line, col, e, told(n, true), told(want, true))
		}
	}
}

// P3.1, P1: where programs are wrong, with nothing else beside that.
func TestReadErrors(t *testing.T) {
	for _, x := range []struct {
		src       string
		line, col int
		e         api.Errno
	}{
		{"u8 x", 1, 5, api.ErrParseToken}, {"u8", 1, 3, api.ErrParseToken}, {"u8 x\n\n ", 3, 2, api.ErrParseToken}, {"x", 1, 1, api.ErrParseToken}, {";", 1, 1, api.ErrParseToken}, {"u8 x;;", 1, 6, api.ErrParseToken}, {"1", 1, 1, api.ErrParseToken}, {"if", 1, 1, api.ErrParseToken},
		// void is a function's alone
		{"void x;", 1, 7, api.ErrParseToken}, {"void x[1];", 1, 7, api.ErrParseToken}, {"void f(void) { }", 1, 8, api.ErrParseToken}, {"void f() { void x; }", 1, 12, api.ErrParseToken}, {"void f() { x = (void)1; }", 1, 17, api.ErrParseToken}, {"void void() { }", 1, 6, api.ErrParseToken},
		// a keyword is no name
		{"u8 if;", 1, 4, api.ErrParseToken}, {"u8 nondet() { }", 1, 4, api.ErrParseToken}, {"void f(u8 true) { }", 1, 11, api.ErrParseToken}, {"void f() { u8 u8; }", 1, 15, api.ErrParseToken}, {"void f() { true = 1; }", 1, 12, api.ErrParseToken}, {"void f() { x = while; }", 1, 16, api.ErrParseToken}, {"void f() { nondet(); }", 1, 12, api.ErrParseToken}, {"void f() { x = y + nondet(); }", 1, 20, api.ErrParseToken},
		// globals and functions
		{"u8 a[x];", 1, 6, api.ErrParseToken}, {"u8 a[];", 1, 6, api.ErrParseToken}, {"u8 a[1 + 1];", 1, 8, api.ErrParseToken}, {"u8 a[1][2];", 1, 8, api.ErrParseToken}, {"u8 a[-1];", 1, 6, api.ErrParseToken}, {"u8 a = 1;", 1, 6, api.ErrParseToken}, {"u8 a, b;", 1, 5, api.ErrParseToken},
		{"u8 f(u8) { }", 1, 8, api.ErrParseToken}, {"u8 f(u8 p,) { }", 1, 11, api.ErrParseToken}, {"u8 f(,) { }", 1, 6, api.ErrParseToken}, {"u8 f(u8 p u8 q) { }", 1, 11, api.ErrParseToken}, {"u8 f(u8 p[1]) { }", 1, 10, api.ErrParseToken}, {"u8 f();", 1, 7, api.ErrParseToken}, {"u8 f() { } }", 1, 12, api.ErrParseToken}, {"u8 f() { }; ", 1, 11, api.ErrParseToken},
		// statements
		{"void f() {", 1, 11, api.ErrParseToken}, {"void f() { { } }", 1, 12, api.ErrParseToken}, {"void f() { ; }", 1, 12, api.ErrParseToken}, {"void f() { x }", 1, 14, api.ErrParseToken}, {"void f() { x; }", 1, 13, api.ErrParseToken}, {"void f() { u8 a[1]; }", 1, 16, api.ErrParseToken}, {"void f() { u8 x = 1; }", 1, 17, api.ErrParseToken}, {"void f() { u8 g() { } }", 1, 16, api.ErrParseToken},
		{"void f() { x = ; }", 1, 16, api.ErrParseToken}, {"void f() { x == 1; }", 1, 14, api.ErrParseToken}, {"void f() { x = y = 1; }", 1, 18, api.ErrParseToken}, {"void f() { 1 = x; }", 1, 12, api.ErrParseToken}, {"void f() { (x) = 1; }", 1, 12, api.ErrParseToken}, {"void f() { a[1]; }", 1, 16, api.ErrParseToken}, {"void f() { a[1](); }", 1, 16, api.ErrParseToken}, {"void f() { a[1][2] = 1; }", 1, 16, api.ErrParseToken}, {"void f() { a[] = 1; }", 1, 14, api.ErrParseToken},
		{"void f() { x = nondet; }", 1, 22, api.ErrParseToken}, {"void f() { x = nondet(1); }", 1, 23, api.ErrParseToken}, {"void f() { x = nondet() + 1; }", 1, 25, api.ErrParseToken}, {"void f() { x = (nondet()); }", 1, 17, api.ErrParseToken},
		{"void f() { g(1,); }", 1, 16, api.ErrParseToken}, {"void f() { g(,1); }", 1, 14, api.ErrParseToken}, {"void f() { g(1 2); }", 1, 16, api.ErrParseToken}, {"void f() { g() }", 1, 16, api.ErrParseToken}, {"void f() { g(g()); }", 1, 15, api.ErrParseToken}, {"void f() { x = g() + 1; }", 1, 20, api.ErrParseToken}, {"void f() { x = 1 + f(2); }", 1, 21, api.ErrParseToken}, {"void f() { x = (g()); }", 1, 18, api.ErrParseToken}, {"void f() { x = -g(); }", 1, 18, api.ErrParseToken}, {"void f() { return g(); }", 1, 20, api.ErrParseToken}, {"void f() { assert(g()); }", 1, 20, api.ErrParseToken},
		{"void f() { if x { } }", 1, 15, api.ErrParseToken}, {"void f() { if () { } }", 1, 16, api.ErrParseToken}, {"void f() { if (x) y = 1; }", 1, 19, api.ErrParseToken}, {"void f() { else {} }", 1, 12, api.ErrParseToken}, {"void f() { if (x) { } else if (y) { } }", 1, 28, api.ErrParseToken}, {"void f() { if (x) { } else { } else { } }", 1, 32, api.ErrParseToken}, {"void f() { while (x) { } else { } }", 1, 26, api.ErrParseToken}, {"void f() { while (x); }", 1, 21, api.ErrParseToken},
		{"void f() { return }", 1, 19, api.ErrParseToken}, {"void f() { return 1, 2; }", 1, 20, api.ErrParseToken}, {"void f() { assert x; }", 1, 19, api.ErrParseToken}, {"void f() { assert(); }", 1, 19, api.ErrParseToken}, {"void f() { assume(x) }", 1, 22, api.ErrParseToken}, {"void f() { assume(x, y); }", 1, 20, api.ErrParseToken},
		// expressions
		{"void f() { x = 1 +; }", 1, 19, api.ErrParseToken}, {"void f() { x = + 1; }", 1, 16, api.ErrParseToken}, {"void f() { x = 1 2; }", 1, 18, api.ErrParseToken}, {"void f() { x = 1 ! 2; }", 1, 18, api.ErrParseToken}, {"void f() { x = (1; }", 1, 18, api.ErrParseToken}, {"void f() { x = 1); }", 1, 17, api.ErrParseToken}, {"void f() { x = (); }", 1, 17, api.ErrParseToken}, {"void f() { x = (1, 2); }", 1, 18, api.ErrParseToken}, {"void f() { x = (u8); }", 1, 20, api.ErrParseToken}, {"void f() { x = (u8 1); }", 1, 20, api.ErrParseToken}, {"void f() { x = u8 1; }", 1, 16, api.ErrParseToken}, {"void f() { x = (u8 + 1); }", 1, 20, api.ErrParseToken}, {"void f() { x = 1[0]; }", 1, 17, api.ErrParseToken}, {"void f() { x = (a)[0]; }", 1, 19, api.ErrParseToken}, {"void f() { x = a[1; }", 1, 19, api.ErrParseToken}, {"void f() { x = a[1, 2]; }", 1, 19, api.ErrParseToken}, {"void f() { x = a\n= 1; }", 2, 1, api.ErrParseToken},
		// chapter 2's errors are told ahead of all that Parse says
		{"void f() { x = $; }", 1, 16, api.ErrLexByte}, {"x x x x $", 1, 9, api.ErrLexByte}, {"x\n 12z", 2, 2, api.ErrLexNumber}, {"x" + strings.Repeat(" ", api.MaxSource), 0, 0, api.ErrLexLong},
	} {
		n, line, col, e := Read(x.src)
		if !zero(n) || line != x.line || col != x.col || e != x.e {
			t.Errorf("%.60q: %s, %d, %d, %d, want %d, %d, %d", x.src, told(n, false), line, col, e, x.line, x.col, x.e)
		}
	}
}

// P3.1: tokens that end without an end, and such that go on behind it.
func TestParseEnd(t *testing.T) {
	for _, src := range []string{"", "u8", "u8 x", "u8 x;", "u8 a[", "void f", "void f(", "void f(u8 p", "void f(u8 p,", "void f()", "void f() {", "void f() { x", "void f() { x =", "void f() { x = y", "void f() { x = y +", "void f() { x = (", "void f() { x = (u8", "void f() { x = nondet", "void f() { a[", "void f() { a[1", "void f() { g(", "void f() { g(1", "void f() { if", "void f() { if (x)", "void f() { if (x) { }", "void f() { return", "void f() { }"} {
		l, _, _, _ := lex.Lex(src)
		if n, line, col, e := Parse(l[:len(l)-1]); !zero(n) || line != 0 || col != 0 || e != api.ErrParseToken {
			t.Errorf("%q without an end: %d, %d, %d", src, line, col, e)
		}
		want, line, col, e := Parse(l)
		for _, more := range []string{"x", "u8 x;", ")", "", "}"} {
			behind, _, _, _ := lex.Lex(more)
			n, a, b, f := Parse(slices.Concat(l, behind))
			if told(n, true) != told(want, true) || a != line || b != col || f != e {
				t.Errorf("%q with %q behind the end: %d, %d, %d, want %d, %d, %d", src, more, a, b, f, line, col, e)
			}
		}
	}
	// a token that is wrong is told, whether or not an end stands behind it
	l, _, _, _ := lex.Lex("u8 x; 1")
	if n, line, col, e := Parse(l[:len(l)-1]); !zero(n) || line != 1 || col != 7 || e != api.ErrParseToken {
		t.Error(line, col, e)
	}
	// nil and empty are one
	for _, l := range [][]api.Token{nil, {}} {
		if n, line, col, e := Parse(l); !zero(n) || line != 0 || col != 0 || e != api.ErrParseToken {
			t.Error(line, col, e)
		}
	}
	// an end at its own place
	if n, _, _, e := Parse([]api.Token{{Kind: 3, Line: 7, Col: 9}}); told(n, true) != "program@7,9" || e != api.OK {
		t.Error(told(n, true), e)
	}
}

// nest is a program on one line, and how deep what is to come stands in it; over is the column of what first stands too deep.
type nest struct {
	src        string
	deep, over int
}

// in puts a text behind which something stands one deeper.
func (s nest) in(text string) nest {
	s.src += text
	s.deep++
	if s.deep == api.MaxDeep+1 {
		s.over = len(s.src) + 1
	}
	return s
}

func (s nest) read(t *testing.T, what string) {
	t.Helper()
	n, line, col, e := Read(s.src)
	switch {
	case s.over == 0 && (n.Kind != "program" || line != 0 || col != 0 || e != api.OK):
		t.Errorf("%s, at most %d deep: %d, %d, %d", what, api.MaxDeep, line, col, e)
	case s.over > 0 && (!zero(n) || line != 1 || col != s.over || e != api.ErrParseDeep):
		t.Errorf("%s: %d, %d, %d, want 1, %d", what, line, col, e, s.over)
	}
}

// blocks is a function's block, and blocks in one another in it: so many in all.
func blocks(many int, opens string) nest {
	s := nest{}.in("void f()")
	for range many - 1 {
		s = s.in("{" + opens)
	}
	s.src += "{"
	return s
}

// P3.1: how deep blocks may stand.
func TestDeepBlocks(t *testing.T) {
	for _, x := range []struct{ first, opens string }{{"if(x)", ""}, {"while(x)", ""}, {"if(x)", "{}else"}, {"if(x)", "{x=1;}else"}, {"x=1;g();if(x==1+2)", ""}, {"if(-", "x==(1))"}} {
		for _, many := range []int{1, 2, 59, 60, 61, 62, 100} {
			s := blocks(many, x.first+x.opens)
			if s.over > 0 {
				s.over -= len(x.opens) // what stands behind the first part is as deep as the block behind all of it
			}
			s.src += strings.Repeat("}", many)
			s.read(t, x.first+x.opens+" "+strconv.Itoa(many))
		}
	}
	// blocks behind one another aren't in one another
	src := "void f() {" + strings.Repeat("if (x) { } else { } while (x) { }", 100) + "}" + strings.Repeat("void f() { }", 100)
	if _, line, col, e := Read(src); e != api.OK {
		t.Error(line, col, e)
	}
}

// P3.1: how deep expressions may stand, in every statement, in every depth of blocks, by all that nests them.
func TestDeepExpressions(t *testing.T) {
	for _, x := range []struct {
		ahead, behind string
		deeper        bool
	}{
		{"x=", ";", false}, {"return ", ";", false}, {"assert(", ");", false}, {"assume(", ");", false}, {"x=1+", "*2;", false}, {"while(", "){}", false}, {"if(", "){}", false},
		{"g(", ");", true}, {"g(1,", ",2);", true}, {"x=g(", ");", true}, {"a[", "]=1;", true}, {"a[", "]=nondet();", true}, {"a[", "]=g();", true},
	} {
		block := strings.HasSuffix(x.behind, "{}")
		for _, wraps := range [][][2]string{{{"(", ")"}}, {{"-", ""}}, {{"!", ""}}, {{"(u8)", ""}}, {{"a[", "]"}}, {{"1+(", "-2)"}}, {{"(", ")"}, {"x*a[", "+1]"}, {"-", ""}, {"(bool)", ""}}} {
			for _, many := range []int{1, 2, 30, 58, 59, 60} {
				for _, more := range []int{0, 1, 2} {
					inside := api.MaxDeep - many + more
					if x.deeper {
						inside--
					}
					if inside < 0 || x.ahead == "g(1," && many == api.MaxDeep {
						continue
					}
					s := blocks(many, "if(x)")
					if x.deeper {
						s = s.in(x.ahead)
					} else {
						s.src += x.ahead
					}
					behind := ""
					for i := range inside {
						w := wraps[i%len(wraps)]
						s = s.in(w[0])
						behind = w[1] + behind
					}
					s.src += "y" + behind
					if block && many == api.MaxDeep && s.over == 0 {
						s.over = len(s.src) + 2 // the block behind the expression is too deep then
					}
					s.src += x.behind + strings.Repeat("}", many)
					s.read(t, x.ahead+" "+wraps[0][0]+" "+strconv.Itoa(many)+" "+strconv.Itoa(more))
				}
			}
		}
	}
}

// P3.1: what stands as deep as it may, and what stands at a place that is too deep.
func TestDeepEdges(t *testing.T) {
	deepest := blocks(api.MaxDeep, "if(x)").src
	ends := strings.Repeat("}", api.MaxDeep)
	for _, src := range []string{"g();", "x=g();", "x=nondet();", "x=y;", "return;", "u8 l;", "assert(x+1==2*y);", "x=1+2+3+4+5;"} {
		if n, line, col, e := Read(deepest + src + ends); n.Kind != "program" || e != api.OK {
			t.Errorf("%s: %d, %d, %d", src, line, col, e)
		}
	}
	for _, x := range []struct {
		src string
		at  int
		e   api.Errno
	}{
		{"g(1);", 2, api.ErrParseDeep}, {"x=g(1);", 4, api.ErrParseDeep}, {"a[1]=2;", 2, api.ErrParseDeep}, {"x=a[1];", 4, api.ErrParseDeep}, {"x=(1);", 3, api.ErrParseDeep}, {"x=-1;", 3, api.ErrParseDeep}, {"x=(u8)1;", 6, api.ErrParseDeep}, {"if(x){}", 5, api.ErrParseDeep}, {"while(x){}", 8, api.ErrParseDeep},
		// a token that is wrong ahead of that
		{"x=(u8 1);", 6, api.ErrParseToken}, {"x=1 2+(3);", 4, api.ErrParseToken}, {"if(x,){}", 4, api.ErrParseToken}, {"g[;", 2, api.ErrParseDeep},
		// whatever token stands where something would begin too deep
		{"x=(;", 3, api.ErrParseDeep}, {"x=();", 3, api.ErrParseDeep}, {"x=(void)1;", 3, api.ErrParseDeep}, {"x=-;", 3, api.ErrParseDeep}, {"if(x);", 5, api.ErrParseDeep}, {"g(", 2, api.ErrParseDeep},
	} {
		n, line, col, e := Read(deepest + x.src)
		if !zero(n) || line != 1 || col != len(deepest)+x.at+1 || e != x.e {
			t.Errorf("%s: %d, %d, %d, want %d, %d", x.src, line, col, e, len(deepest)+x.at+1, x.e)
		}
	}
	// there is no token there
	l, _, _, _ := lex.Lex(deepest + "x=(")
	if n, line, col, e := Parse(l[:len(l)-1]); !zero(n) || line != 0 || col != 0 || e != api.ErrParseToken {
		t.Error(line, col, e)
	}
}

// P3.1, P1: operators don't nest what stands between them, however many there are.
func TestManyOperators(t *testing.T) {
	for _, x := range []struct {
		op   string
		many int
	}{{"+", 30000}, {"<<", 20000}, {"*x+", 15000}, {"+x*", 15000}} {
		n, line, col, e := Read("void f() { x = x" + strings.Repeat(x.op+"x", x.many) + "; }")
		if e != api.OK || Deep(n) < x.many {
			t.Errorf("%d times %s: %d, %d, %d, %d deep", x.many, x.op, line, col, e, Deep(n))
		}
	}
	l, _, _, _ := lex.Lex("void f() { x = x")
	l = l[:len(l)-1]
	for range 1 << 18 {
		l = append(l, api.Token{Kind: 2, Text: "-"}, api.Token{Text: "x"})
	}
	end, _, _, _ := lex.Lex("; }")
	n, line, col, e := Parse(append(l, end...))
	if e != api.OK {
		t.Fatal(line, col, e)
	}
	n = n.Kids[0].Kids[1].Kids[0].Kids[1]
	for n.Kind == "binary" {
		n = n.Kids[0]
	}
	if n.Kind != "name" {
		t.Error(n.Kind)
	}
}

// P1: tokens that chapter 2 doesn't tell have some answer too, and beside an error there is no tree.
func TestParseAnyTokens(t *testing.T) {
	odd := []api.Token{{Kind: 3, Text: "u8"}, {Kind: 9, Text: "x"}, {Kind: -1, Text: ";"}, {}, {Text: "u8"}, {Kind: 1, Text: "("}, {Kind: 2, Text: "\xff"}, {Kind: 2}, {Text: "x y"}, {Kind: 1, Text: "void", Num: 5}, {Kind: 2, Text: "{"}, {Kind: 2, Text: ")"}, {Text: "x", Line: -3, Col: -4}, {Kind: 2, Text: "="}}
	var grow func(l []api.Token, left int)
	grow = func(l []api.Token, left int) {
		n, line, col, e := Parse(l)
		if e == api.OK && (n.Kind != "program" || line != 0 || col != 0) || e != api.OK && !zero(n) {
			t.Fatal(l, n, line, col, e)
		}
		if left == 0 {
			return
		}
		for _, x := range odd {
			grow(append(slices.Clone(l), x), left-1)
		}
	}
	grow(nil, 4)
	begins, _, _, _ := lex.Lex("void f() { x = g")
	grow(begins[:len(begins)-1], 4)
}

// Rules: what is handed in stays as it is, its spare room too; what is handed out is new memory.
func TestParseLeavesAndAnswersAnew(t *testing.T) {
	src := "u8 a[3]; u8 f(u8 p, u8 q) { u8 l; a[l] = f(p, q + 1); if (l) { return 1; } else { } }"
	lexed, _, _, _ := lex.Lex(src)
	room := append(slices.Clone(lexed), api.Token{Text: "spare"}, api.Token{Text: "room"})
	kept := slices.Clone(room)
	one, _, _, _ := Parse(room[:len(lexed)])
	two, _, _, _ := Parse(room[:len(lexed)])
	if !slices.Equal(room, kept) {
		t.Error("what was handed in is changed")
	}
	want := told(two, true)
	if told(one, true) != want {
		t.Fatal(told(one, true), want)
	}
	for i := range room {
		room[i] = api.Token{Kind: 9, Text: "?"}
	}
	spoil(&one)
	if told(two, true) != want {
		t.Error("an answer hangs on another one, or on what was handed in")
	}
	if three, _, _, _ := Read(src); told(three, true) != want {
		t.Error("a call hangs on another one")
	}
	if shares(two, lexed) {
		t.Error("a text of the answer is one that was handed in")
	}
	// no two lists of one answer share their room
	if four, _, _, _ := Read(src); stretched(four) != want {
		t.Error("lists of an answer share their room")
	}
}

// shares is whether a tree has a text in the memory of a token's.
func shares(n api.Node, l []api.Token) bool {
	for _, x := range l {
		if n.Text != "" && unsafe.StringData(n.Text) == unsafe.StringData(x.Text) {
			return true
		}
	}
	return slices.ContainsFunc(n.Kids, func(k api.Node) bool { return shares(k, l) })
}

// spoil changes all of a tree, the spare room of its lists too.
func spoil(n *api.Node) {
	for i := range n.Kids {
		spoil(&n.Kids[i])
	}
	all := n.Kids[:cap(n.Kids)]
	for i := range all {
		all[i] = api.Node{Kind: "?"}
	}
	n.Kind = "?"
}

// stretched is a tree told behind every list's spare room was written to.
func stretched(n api.Node) string {
	var stretch func(n api.Node)
	stretch = func(n api.Node) {
		for i := len(n.Kids); i < cap(n.Kids); i++ {
			n.Kids[:cap(n.Kids)][i] = api.Node{Kind: "?"}
		}
		for _, k := range n.Kids {
			stretch(k)
		}
	}
	stretch(n)
	return told(n, true)
}
