package check

import (
	"fmt"
	"strings"
	"testing"

	"skua/api"
)

// P4.1: what is wrong outside of bodies.
func TestWrongHeads(t *testing.T) {
	for _, x := range []struct {
		src  string
		want api.Errno
	}{
		{"u8 x; $u8 x; void main() {}", api.ErrCheckName},
		{"u8 x;\n\n  $i64 x[3]; void main() {}", api.ErrCheckName},
		{"u8 f; $void f() {} void main() {}", api.ErrCheckName},
		{"void f() {} $u8 f; void main() {}", api.ErrCheckName},
		{"void f() {} $bool f(u8 p) {} void main() {}", api.ErrCheckName},
		{"void main() {} $void main() {}", api.ErrCheckName},
		{"void main() {} $void main(u8 p) {}", api.ErrCheckName},
		{"void f(u8 p, $u8 p) {} void main() {}", api.ErrCheckName},
		{"void f(u8 p, bool q, $i8 p) {} void main() {}", api.ErrCheckName},
		{"u8 a[$0]; void main() {}", api.ErrCheckSize},
		{"u8 a[ $17 ]; void main() {}", api.ErrCheckSize},
		{"u8 a[$0x8000000000000000]; void main() {}", api.ErrCheckSize},
		{"u8 a[$0xFFFFFFFFFFFFFFFF]; void main() {}", api.ErrCheckSize},
		{"u8 a[$18446744073709551601]; void main() {}", api.ErrCheckSize},
		{"u8 a[$4294967297]; void main() {}", api.ErrCheckSize},
		{"", api.ErrCheckMain},
		{"u8 main;", api.ErrCheckMain},
		{"void f() {} void mains() {} void Main() {}", api.ErrCheckMain},
		{"void main(u8 p) {}", api.ErrCheckMain},
		{"u8 main[2]; void f() { u8 main; }", api.ErrCheckMain},
	} {
		wrong(t, x.src, x.want)
	}
	for _, src := range []string{
		"u8 a[1]; u8 b[0x10]; void main() {}", "u8 x; void f(u8 x) {} void g(u8 x, u8 g) {} void main() {}",
		"u8 x; u8 y; void f() { u8 x; i8 f; } void main() { u16 x; u16 f; }", "bool main() {}",
	} {
		right(t, src)
	}
}

// list is texts, with the number of each in place of %d, from one number up to another.
func list(text, between string, from, to int) string {
	var l []string
	for i := from; i <= to; i++ {
		l = append(l, fmt.Sprintf(text, i))
	}
	return strings.Join(l, between)
}

// P4.1: how many there may be.
func TestMany(t *testing.T) {
	main := " void main() {} "
	funcs := func(many int) string { return list("void f%d() {}", " ", 1, many) }
	globals := func(many int) string { return list("u8 x%d;", " ", 1, many) }
	params := func(many int) string { return list("u8 p%d", ", ", 1, many) }
	locals := func(from, to int) string { return list("bool l%d;", " ", from, to) }
	for _, src := range []string{
		funcs(15) + main, globals(64) + main, globals(48) + "u8 a[16];" + main, "u8 a[16];" + globals(48) + main, "u8 a[16]; u8 b[16]; i64 c[16]; bool d[15]; bool e;" + main,
		globals(63) + "u8 a[1];" + main, globals(64) + " u8 f(" + params(64) + ") {} void main() { " + locals(1, 64) + " }",
		"void f(" + params(60) + ") { " + locals(1, 4) + " }" + main, "void main() { " + locals(1, 64) + " }",
		"void main() { while (true) { " + locals(1, 30) + " if (true) { " + locals(31, 60) + " } else { " + locals(61, 64) + " } } }",
	} {
		right(t, src)
	}
	for _, src := range []string{
		funcs(15) + main + "$void g() {}", funcs(16) + " $void main() {}", main + funcs(15) + "u8 x; $u8 g(u8 p, u8 p) {} u8 x;",
		globals(64) + "$u8 x;" + main, globals(64) + "$u8 a[1];" + main, globals(48) + "u8 a[16]; $u8 b;" + main + "u8 c;",
		globals(63) + "$u8 a[2];" + main, "u8 a[16];" + globals(48) + main + "$u8 y;", "u8 a[16]; u8 b[16]; u8 c[16]; u8 d[15]; u8 e; $u8 f;" + main,
		"void f(" + params(64) + ", $u8 p) {}" + main, "void f(" + params(64) + ") { if (true) { $u8 l; } }" + main, "void f(" + params(60) + ") { " + locals(1, 4) + " $u8 l; u8 k; }" + main,
		"void main() { " + locals(1, 64) + " $u8 l; }",
		"void main() { while (true) { " + locals(1, 30) + " if (true) { " + locals(31, 60) + " } else { " + locals(61, 64) + " } } if (true) { $u8 l; } }",
	} {
		wrong(t, src, api.ErrCheckMany)
	}
	// Many is asked ahead of the name, but of locals; of an array of a wrong size it isn't asked.
	wrong(t, funcs(16)+" $void f1() {}", api.ErrCheckMany)
	wrong(t, funcs(15)+main+" $void main() {}", api.ErrCheckMany)
	wrong(t, globals(64)+" $u8 x1;"+main, api.ErrCheckMany)
	wrong(t, globals(60)+" $u8 x1[5];"+main, api.ErrCheckMany)
	wrong(t, globals(60)+" $u8 x1[4];"+main, api.ErrCheckName)
	wrong(t, globals(64)+" u8 a[$17];"+main, api.ErrCheckSize)
	wrong(t, globals(64)+" u8 a[$0];"+main, api.ErrCheckSize)
	wrong(t, globals(64)+" $u8 x1[17];"+main, api.ErrCheckName)
	wrong(t, "u8 a; $u8 a[17];"+main, api.ErrCheckName)
	wrong(t, "void f("+params(64)+", $u8 p1) {}"+main, api.ErrCheckMany)
	wrong(t, "void main() { "+locals(1, 64)+" $u8 l1; }", api.ErrCheckName)
	wrong(t, "void f("+params(64)+") { $u8 p64; }"+main, api.ErrCheckName)
}

// head is what the bodies below may name.
const head = "u8 x; i8 y; bool b; u8 a[2]; bool c[2]; u64 w; void v() {} u8 f(u8 p) { return p; } i8 g(bool p, i8 q) { return q; } "

// P4.1: what is wrong in a body, by itself.
func TestWrongBodies(t *testing.T) {
	for e, l := range map[api.Errno][]string{
		api.ErrCheckName: {
			"$z = 1;", "$z[0] = 1;", "x = $z;", "x = $z[0];", "a[$z] = 1;", "a[x + $z[1]] = 1;", "x = a[$z];", "$z = nondet();", "a[$z] = nondet();", "$z = f(1);", "a[$z] = f(1);",
			"$z();", "x = $z();", "f($z);", "x = f($z);", "g(true, y + $z);", "if ($z) {}", "while ($z) {}", "assert($z);", "assume(b && $z);", "if (b) { $z = 1; }", "if (b) {} else { x = $z; }", "while (b) { $z(); }",
			"x = -$z;", "x = ~$z;", "b = !$z;", "x = (u8)$z;", "x = 1 + $z;", "x = $z << 1;", "b = $z == 1;", "b = 1 == $z;", "b = x < $z;", "b = $z && b;", "b = b || $z;", "assert((u8)(1 + -$z) == 1);",
			// names of functions are no variables', names of variables no functions'
			"$f = 1;", "x = $f;", "x = $main;", "$x();", "x = $x(1);", "$a(1);", "u8 l; $l();", "u8 l; x = $l(1);",
			// a local isn't there ahead of where it is declared
			"$l = 1; u8 l;", "x = $l; u8 l;", "if (b) { $l = 1; } u8 l;", "while ($l == 1) { u8 l; }",
			"u8 l; $u8 l;", "u8 l; $bool l;", "u8 l; if (b) { $u8 l; }", "if (b) { u8 l; } else { $u8 l; }", "if (b) { u8 l; } $u8 l;", "while (b) { u8 l; } while (b) { x = 1; $i64 l; }",
		},
		api.ErrCheckCount: {
			"$f();", "$f(1, 2);", "$v(1);", "$g(true);", "$g(true, 1, 1);", "x = $f();", "x =\n\t$f(1, 2);", "y = $g();", "a[x] = $f();", "$main(1);",
		},
		api.ErrCheckType: {
			"x = $true;", "x = $256;", "x = $y;", "x = $w;", "x = $b;", "b = $1;", "b = $x;", "y = $x;", "w = $x;", "y = $256;", "y = -$256;",
			// arrays without an index, others with one, in targets and expressions
			"$a = 1;", "$x[0] = 1;", "$a = nondet();", "$x[0] = nondet();", "$a = f(1);", "$x[0] = f(1);", "x = $a;", "x = $x[0];", "x = $y[0];", "f($a);", "b = $a == a;", "b = x == $a;", "u8 a; $a[0] = 1;", "u8 a; x = $a[0];",
			"x = $c[0];", "b = $a[0];", "y = $a[0];", "a[0] = $c[0];", "a[1] = $256;", "c[0] = $x;",
			"a[$b] = 1;", "a[$true] = 1;", "a[b $== b] = 1;", "a[$(bool)x] = 1;", "a[$c[0]] = nondet();", "a[b $& b] = f(1);", "x = a[$false];", "x = a[$!b];", "b = c[$c[0]];", "x = a[a[$b]];", "x = a[x + $true];", "x = a[x + $y];", "x = a[$a];", "x = a[-$300 + x];",
			"x = $(i8)x;", "x = $(bool)x;", "b = $(u8)b;", "x = (u8)(x + $y);", "x = (u8)(x + $300);", "x = (u8)(y + $300);", "x = (u8)(b $+ b);", "b = (bool)(y == $x);", "w = (u64)(x + $256);",
			"x = $!x;", "x = $!b;", "b = !$x;", "b = !$1;", "b = $-b;", "b = $~b;", "x = -$b;", "x = ~$y;", "y = -$x;", "b = !$-b;",
			"x = x $&& x;", "x = b $&& b;", "b = $x && b;", "b = b && $x;", "b = b || $1;", "b = $0 || b;", "b = (x $+ x) && b;",
			"x = x $== x;", "x = x $< x;", "b = x == $y;", "b = y != $x;", "b = x == $256;", "b = $256 == x;", "b = b == $x;", "b = x == $b;", "b = b == $1;", "b = $1 == b;", "b = x < $y;", "b = x <= $300;", "b = $300 > x;", "b = x >= $b;",
			"b = b $< b;", "b = b $<= 1;", "b = 1 $> b;", "b = true $>= false;", "b = (x == x) $< (x == x);", "b = !b $< b;", "b = b & b $< b;",
			"x = x + $y;", "x = $y + x;", "x = x + x $== x;", "x = x << $w;", "x = x >> $y;", "x = x << $256;", "x = x + $300 / 300;", "x = x * $b;", "x = x % $true;", "x = $w - x;", "x = 1 $< 2 & x;",
			"b = b $+ b;", "b = b $- b;", "b = b $* b;", "b = b $/ b;", "b = b $% b;", "b = b $<< b;", "b = b $>> b;", "b = b & $x;", "b = $x | b;", "b = b ^ $1;", "x = x & $b;", "x = $b | x;", "x = x ^ $y;",
			"f($true);", "f($y);", "f($256);", "g($1, 1);", "g(b, $x);", "g(b, $b);", "x = f($b);", "y = g(b, $x);", "a[0] = f($w);",
			"x = $v();", "b = $f(1);", "w = $f(1);", "x = $g(b, y);", "y =\n $f(1);", "a[0] = $g(true, 1);", "c[0] = $f(1);", "x = $main();",
			"if ($x) {}", "if ($1) {}", "while ($a[0]) {}", "while (x $+ x) {}", "assert($x);", "assert($0);", "assume($y);", "assume(!$x);", "assert($c);",
			"$return 1;", "$return x;", "$return true;", "if (b) { $return 1; }", "return; $return b;",
		},
	} {
		for _, src := range l {
			wrong(t, head+"void main() { "+src+" }", e)
		}
	}
	for _, src := range []string{"u8 h() { $return; }", "bool h() { x = 1; while (true) { $return; } }", "bool h() { return $1; }", "u8 h(i8 p) { return $p; }", "i8 h(i8 p) { u8 l; if (b) { return $l; } }"} {
		wrong(t, head+src+" void main() {}", api.ErrCheckType)
	}
}

// P4.1: of two things that are wrong the first one is told.
func TestFirstOfTwo(t *testing.T) {
	for _, x := range []struct {
		src  string
		want api.Errno
	}{
		// heads as they stand, then bodies, then main
		{"void main() { z = 1; } u8 x; $u8 x;", api.ErrCheckName},
		{"void main() { z = 1; } u8 x[$0];", api.ErrCheckSize},
		{"void main() { z = 1; } void f(u8 p, $u8 p) {}", api.ErrCheckName},
		{"u8 a[$0]; u8 a; void main() {}", api.ErrCheckSize},
		{"u8 a; $u8 a; u8 b[0]; void main() {}", api.ErrCheckName},
		{"void f() {} $void f(u8 p, u8 p) {} void main() {}", api.ErrCheckName},
		{"void f(u8 p, $u8 p) {} void f() {} void main() {}", api.ErrCheckName},
		{"void f() { $z = 1; } void g() { x = 1; }", api.ErrCheckName},
		{"void g() { u8 x; x = $true; } void main(u8 p) { z = 1; }", api.ErrCheckType},
		{"u8 f() { $return; } u8 g() { z = 1; } void main() {}", api.ErrCheckType},
		{"u8 x; $u8 x;", api.ErrCheckName},
		// statements as they stand
		{head + "void main() { x = $true; z = 1; }", api.ErrCheckType},
		{head + "void main() { if ($x) { z = 1; } else { z = 1; } }", api.ErrCheckType},
		{head + "void main() { if (b) { x = $b; } else { z = 1; } }", api.ErrCheckType},
		{head + "void main() { while ($1) { z = 1; } z = 1; }", api.ErrCheckType},
		{head + "void main() { while (b) { u8 l; $u8 l; } z = 1; }", api.ErrCheckName},
		// a target, its index too, ahead of what goes there
		{head + "void main() { $z = true + 1; }", api.ErrCheckName},
		{head + "void main() { $a = zz; }", api.ErrCheckType},
		{head + "void main() { a[$b] = z; }", api.ErrCheckType},
		{head + "void main() { $z[zz] = zzz; }", api.ErrCheckName},
		{head + "void main() { $x[z] = zz; }", api.ErrCheckType},
		{head + "void main() { $z = zz(); }", api.ErrCheckName},
		{head + "void main() { $a = z(); }", api.ErrCheckType},
		{head + "void main() { a[$b] = z(); }", api.ErrCheckType},
		{head + "void main() { $x[z] = nondet(); }", api.ErrCheckType},
		// a function's name, then the number of arguments, then what it returns, then the arguments
		{head + "void main() { $z(zz); }", api.ErrCheckName},
		{head + "void main() { x = $z(zz); }", api.ErrCheckName},
		{head + "void main() { $f(z, zz); }", api.ErrCheckCount},
		{head + "void main() { x = $f(z, zz); }", api.ErrCheckCount},
		{head + "void main() { b = $f(1, 2); }", api.ErrCheckCount},
		{head + "void main() { x = $v(1); }", api.ErrCheckCount},
		{head + "void main() { b = $f(true); }", api.ErrCheckType},
		{head + "void main() { b = $f(z); }", api.ErrCheckType},
		{head + "void main() { g($1, z); }", api.ErrCheckType},
		{head + "void main() { g($z, x); }", api.ErrCheckName},
		{head + "void main() { y = g(b $+ 1 == 1, z); }", api.ErrCheckType},
		{head + "void main() { $return z; }", api.ErrCheckType},
		// a node ahead of what stands below it, an operand ahead of the next one
		{head + "void main() { x = z $== 1; }", api.ErrCheckType},
		{head + "void main() { x = z $< true; }", api.ErrCheckType},
		{head + "void main() { x = z $&& 1; }", api.ErrCheckType},
		{head + "void main() { x = $(i8)z; }", api.ErrCheckType},
		{head + "void main() { x = $!z; }", api.ErrCheckType},
		{head + "void main() { b = $-z; }", api.ErrCheckType},
		{head + "void main() { b = z $+ zz; }", api.ErrCheckType},
		{head + "void main() { b = $a[z]; }", api.ErrCheckType},
		{head + "void main() { x = $x[z]; }", api.ErrCheckType},
		{head + "void main() { x = $z[zz]; }", api.ErrCheckName},
		{head + "void main() { x = $true + z; }", api.ErrCheckType},
		{head + "void main() { x = $z + true; }", api.ErrCheckName},
		{head + "void main() { x = 1 + $y + z; }", api.ErrCheckType},
		{head + "void main() { x = (1 + $y) + z; }", api.ErrCheckType},
		{head + "void main() { x = 1 + ($z + y); }", api.ErrCheckName},
		{head + "void main() { b = $1 && z; }", api.ErrCheckType},
		{head + "void main() { b = x == $y & z == 1; }", api.ErrCheckType},
		{head + "void main() { b = a[$b] == a[z]; }", api.ErrCheckType},
		// names that aren't there, where it is asked what they suggest
		{head + "void main() { b = 256 $+ true * -z == x; }", api.ErrCheckType},
		{head + "void main() { b = 256 + -$z + true == x; }", api.ErrCheckName},
		{head + "void main() { b = (1 << 300) - ~$z[true] < y; }", api.ErrCheckName},
		{head + "void main() { b = 1 + 2 == ~3 * $z; }", api.ErrCheckName},
		{head + "void main() { b = $300 + x == z; }", api.ErrCheckType},
		{head + "void main() { b = x + $true == z; }", api.ErrCheckType},
		{head + "void main() { b = a[$z] + zz == zzz; }", api.ErrCheckName},
		{head + "void main() { b = x + a[$true] == z; }", api.ErrCheckType},
		{head + "void main() { b = (u8)(x + $y) == z; }", api.ErrCheckType},
		{head + "void main() { b = !$x == z; }", api.ErrCheckType},
		{head + "void main() { b = ($1 == true) == z; }", api.ErrCheckType},
		{head + "void main() { x = (u8)(1 - $z - true); }", api.ErrCheckName},
		{head + "void main() { x = a[1 - $z - true]; }", api.ErrCheckName},
		{head + "void main() { x = a[(1 - true) $- z]; }", api.ErrCheckType},
		{head + "void main() { a[1 ^ $z[zz]] = zzz; }", api.ErrCheckName},
		{head + "void main() { x = a[b $& z]; }", api.ErrCheckType},
		{head + "void main() { b = b & $z < 1; }", api.ErrCheckName},
	} {
		wrong(t, x.src, x.want)
	}
}
