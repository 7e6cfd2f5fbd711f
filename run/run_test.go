package run

import (
	"math"
	"reflect"
	"slices"
	"strconv"
	"strings"
	"testing"

	"skua/api"
	"skua/check"
)

// many is more steps than the runs of most tests take.
const many = 1000

// ends runs a program in which $ stands ahead of the place that the end has; without a $ that is 0 and 0.
func ends(t *testing.T, marked string, draws []uint64, steps int, want api.Outcome) {
	t.Helper()
	src := strings.Replace(marked, "$", "", 1)
	if ahead, _, is := strings.Cut(marked, "$"); is {
		want.Line = strings.Count(ahead, "\n") + 1
		want.Col = len(ahead) - strings.LastIndexByte(ahead, '\n')
	}
	got, line, col, e := Read(src, draws, steps)
	if !same(got, want) || line != 0 || col != 0 || e != api.OK {
		t.Errorf("%q, %v, %d steps: %v, want %v; %d, %d, %d", marked, draws, steps, got, want, line, col, e)
	}
}

func outcome(end, steps, draws int, globals ...uint64) api.Outcome {
	return api.Outcome{End: end, Steps: steps, Draws: draws, Globals: globals}
}

// P5.1: each way in which a run ends, and where.
func TestEnds(t *testing.T) {
	for _, x := range []struct {
		src   string
		draws []uint64
		want  api.Outcome
	}{
		{"void main() {}", nil, outcome(api.EndDone, 0, 0)},
		{"u8 x; void main() { x = 7; }", nil, outcome(api.EndDone, 1, 0, 7)},
		{"u8 x; u8 main() { return 9; x = 1; }", nil, outcome(api.EndDone, 1, 0, 0)},
		{"u8 x; void main() {\n  x = 3;\n\t $x = nondet(); }", nil, outcome(api.EndDraws, 2, 0, 3)},
		{"u8 a[3]; void main() { a[1] = nondet(); $a[2] = nondet(); }", []uint64{5}, outcome(api.EndDraws, 2, 1, 0, 5, 0)},
		{"bool b; void main() { b = nondet(); assume(b); $assume(!b); b = false; }", []uint64{7}, outcome(api.EndAssume, 3, 1, 1)},
		{"u8 x; void main() { assert(x == 0); x = 1;\n $assert(x == 0); x = 2; }", nil, outcome(api.EndAssert, 3, 0, 1)},
		{"u8 f(u8 n) { $assert(n < 2); return n; } u8 x; void main() { x = f(1); x = 1 + 7; x = f(x); x = 3; }", nil, outcome(api.EndAssert, 6, 0, 8)},
		// where the element's node stands, in expressions and as a target
		{"u8 a[2]; u8 x; void main() { x = 2; x = 1 + $a[x]; }", nil, outcome(api.EndIndex, 2, 0, 0, 0, 2)},
		{"u8 a[2]; u8 x; void main() { x = 2; $a[x] = 1; }", nil, outcome(api.EndIndex, 2, 0, 0, 0, 2)},
		{"u8 a[2]; void main() { while (1 + $a[2] < 7) {} }", nil, outcome(api.EndIndex, 1, 0, 0, 0)},
		// of one in another the inner one
		{"u8 a[2]; void main() { a[$a[2]] = a[3]; }", nil, outcome(api.EndIndex, 1, 0, 0, 0)},
		{"u8 a[2]; void main() { a[1] = 9; $a[a[a[0] + 1]] = 0; }", nil, outcome(api.EndIndex, 2, 0, 0, 9)},
		// where the operator stands
		{"u8 x; void main() { x = 1 + 7 $/ (x * 2); }", nil, outcome(api.EndZero, 1, 0, 0)},
		{"i8 x; void main() { x = 1; if (3\n $% (x - 1) == 0) {} }", nil, outcome(api.EndZero, 2, 0, 1)},
		{"u8 x; void main() { x = 1 $/ x / x; }", nil, outcome(api.EndZero, 1, 0, 0)},
	} {
		ends(t, x.src, x.draws, many, x.want)
	}
}

// P5.1: what stands in one statement is asked in order, and what comes to an end first ends the run.
func TestOrder(t *testing.T) {
	const head = "u8 x; u8 a[2]; u8 f(u8 p, u8 q) { x = x + 1; return p; } void main() { "
	for _, x := range []struct {
		src string
		end int
		x   uint64
	}{
		// a target's index ahead of all else
		{"$a[2] = 1 / x;", api.EndIndex, 0},
		{"a[1 $/ x] = a[2];", api.EndZero, 0},
		{"$a[2] = nondet();", api.EndIndex, 0},
		{"a[1 $/ x] = nondet();", api.EndZero, 0},
		{"$a[2] = f(1 / x, a[3]);", api.EndIndex, 0},
		// operands and arguments from the left to the right, all of them ahead of the operator and the call
		{"x = 1 $/ x + a[2];", api.EndZero, 0},
		{"x = $a[2] + 1 / x;", api.EndIndex, 0},
		{"x = $a[2] / x;", api.EndIndex, 0},
		{"x = x / $a[2];", api.EndIndex, 0},
		{"x = 1 $/ x / x;", api.EndZero, 0},
		{"x = 1 / (1 $/ x);", api.EndZero, 0},
		{"f(1 $/ x, a[2]);", api.EndZero, 0},
		{"f($a[2], 1 / x);", api.EndIndex, 0},
		{"f(1, 1 $% x);", api.EndZero, 0},
		{"x = f(1, $a[2]);", api.EndIndex, 0},
		// of && and || the right operand only if the left one doesn't tell
		{"assert(true && 1 $/ x == 1);", api.EndZero, 0},
		{"assert(false || $a[2] == 1);", api.EndIndex, 0},
		{"$assert(false && 1 / x == 1);", api.EndAssert, 0},
		{"assume(true || a[2] == 1); x = 7;", api.EndDone, 7},
		{"assume(x == 0 && (x == 1 || x == 0)); $assume((x == 1 || x == 2) && 1 / x == 1);", api.EndAssume, 0},
		// of & and | always
		{"assume(true | $a[2] == 1);", api.EndIndex, 0},
		{"assume(false & 1 $/ x == 1);", api.EndZero, 0},
	} {
		ends(t, head+x.src+" }", []uint64{3}, many, outcome(x.end, strings.Count(x.src, ";"), 0, x.x, 0, 0))
	}
}

// P5.1: a target's index is what it is ahead of the call; what the call returns goes there last.
func TestTargets(t *testing.T) {
	for _, x := range []struct {
		src   string
		steps int
		want  []uint64
	}{
		{"u8 k; u8 a[2]; u8 f() { k = 1; a[0] = 5; return 7; } void main() { a[k] = f(); }", 4, []uint64{1, 7, 0}},
		{"u8 k; u8 a[2]; void main() { a[k] = f(k); } u8 f(u8 p) { k = 1; a[0] = 5; return p + a[0]; }", 4, []uint64{1, 5, 0}},
		{"u8 x; void main() { x = 3; x = x + x * x; }", 2, []uint64{12}},
		{"u8 x; u8 f() { x = 9; return 1; } void main() { x = 3; x = f(); }", 4, []uint64{1}},
		{"u8 x; u8 f() { x = 9; return 1; } void main() { x = 3; f(); }", 4, []uint64{9}},
		{"u8 x; u8 f() { x = 9; } void main() { x = 3; x = f(); }", 3, []uint64{0}},
		{"u8 x; void main() { u8 l; l = f(l); x = l; } u8 f(u8 l) { l = l + 4; return l; }", 4, []uint64{4}},
	} {
		ends(t, x.src, nil, many, outcome(api.EndDone, x.steps, 0, x.want...))
	}
}

// P5.1: variables begin with 0, but parameters with their arguments; each call has its own.
func TestVariables(t *testing.T) {
	for _, x := range []struct {
		src   string
		steps int
		want  []uint64
	}{
		{"bool b; u8 a[2]; i64 y; u8 c[1]; void main() {}", 0, []uint64{0, 0, 0, 0, 0}},
		{"u8 a[2]; u8 x; u8 c[3]; void main() { a[0] = 1; a[1] = 2; x = 3; c[0] = 4; c[1] = 5; c[2] = 6; }", 6, []uint64{1, 2, 3, 4, 5, 6}},
		{"u8 x; void f() { u8 l; x = x + l + 1; l = 50; } void main() { f(); f(); }", 6, []uint64{2}},
		// a local in a loop is one variable, and isn't 0 once more in the next round
		{"u8 x; void main() { while (x < 3) { u8 l; l = l + 5; x = x + 1; if (x == 3) { x = l; } } }", 14, []uint64{15}},
		// parameters are copies
		{"u8 x; void f(u8 p, u8 q) { p = q; x = p; } void main() { u8 l; l = 8; f(l, 4); x = x + l; }", 5, []uint64{12}},
		{"u8 x; void f(u8 n) { u8 l; l = n; if (n > 0) { f(n - 1); } x = x * 10 + l; } void main() { f(2); }", 12, []uint64{12}},
		// a function's variable is meant, not a global of that name
		{"u8 x; void main() { u8 x; x = 7; f(x); } void f(u8 p) { x = p + 1; }", 3, []uint64{8}},
		{"u8 x; void main() { if (x < 3) { x = x + 1; main(); x = x + 10; } }", 13, []uint64{33}},
		// which one is main is told by its name
		{"u8 x; void f() { x = 1; } void main() { x = x + 2; } void g() { x = 4; }", 1, []uint64{2}},
	} {
		ends(t, x.src, nil, many, outcome(api.EndDone, x.steps, 0, x.want...))
	}
}

// P5.1: how many steps what kind of statement is, and what return leaves.
func TestStatements(t *testing.T) {
	for _, x := range []struct {
		src   string
		steps int
		draws int
		want  []uint64
	}{
		{"u8 x; void main() { if (true) { x = 1; } else { x = 2; } }", 2, 0, []uint64{1}},
		{"u8 x; void main() { if (false) { x = 1; } else { x = 2; } }", 2, 0, []uint64{2}},
		{"u8 x; void main() { if (false) { x = 1; } x = x + 4; }", 2, 0, []uint64{4}},
		{"u8 x; void main() { if (true) {} else { x = 1; } }", 1, 0, []uint64{0}},
		{"u8 x; void main() { if (x == 0) { x = 1; if (x == 1) { x = 2; } x = x + 5; } }", 5, 0, []uint64{7}},
		{"u8 x; void main() { while (false) { x = 1; } }", 1, 0, []uint64{0}},
		{"u8 x; void main() { while (x < 2) { x = x + 1; } }", 5, 0, []uint64{2}},
		{"bool b; void main() { b = true; while (b) { b = nondet(); } }", 6, 2, []uint64{0}},
		{"u8 x; u8 y; void main() { while (x < 2) { y = 0; while (y < 2) { y = y + 1; } x = x + 1; } }", 17, 0, []uint64{2, 2}},
		{"void f() {} void main() { f(); f(); }", 2, 0, nil},
		{"void f() { return; } void main() { f(); f(); }", 4, 0, nil},
		{"u8 x; void main() { assert(true); assume(true); x = nondet(); }", 3, 1, []uint64{3}},
		// return leaves loops and blocks, but no more than its own call
		{"u8 x; void f() { while (true) { while (true) { if (true) { return; } } } } void main() { while (x < 2) { f(); x = x + 1; } x = x + 5; }", 16, 0, []uint64{7}},
		{"u8 x; void main() { while (true) { x = x + 1; if (x == 2) { return; } } x = 9; }", 7, 0, []uint64{2}},
		{"u8 x; u8 f(u8 n) { if (n == 0) { return 1; } u8 r; r = f(n - 1); return r * n; } void main() { x = f(5); }", 18, 0, []uint64{120}},
	} {
		ends(t, x.src, []uint64{3, 4, 5}, many, outcome(api.EndDone, x.steps, x.draws, x.want...))
	}
}

// P5.1: within fewer steps than a run needs.
func TestSteps(t *testing.T) {
	const body = "x = nondet(); while (x > 2) { x = x - 1; } f(); assert(x == 2); } void f() { return; }"
	for steps, x := range []struct {
		src string
		x   uint64
	}{
		{"$x = nondet(); while (x > 2) { x = x - 1; } f(); assert(x == 2); } void f() { return; }", 0},
		{"x = nondet(); $while (x > 2) { x = x - 1; } f(); assert(x == 2); } void f() { return; }", 4},
		{"x = nondet(); while (x > 2) { $x = x - 1; } f(); assert(x == 2); } void f() { return; }", 4},
		{"x = nondet(); $while (x > 2) { x = x - 1; } f(); assert(x == 2); } void f() { return; }", 3},
		{"x = nondet(); while (x > 2) { $x = x - 1; } f(); assert(x == 2); } void f() { return; }", 3},
		{"x = nondet(); $while (x > 2) { x = x - 1; } f(); assert(x == 2); } void f() { return; }", 2},
		{"x = nondet(); while (x > 2) { x = x - 1; } $f(); assert(x == 2); } void f() { return; }", 2},
		{"x = nondet(); while (x > 2) { x = x - 1; } f(); assert(x == 2); } void f() { $return; }", 2},
		{"x = nondet(); while (x > 2) { x = x - 1; } f(); $assert(x == 2); } void f() { return; }", 2},
	} {
		ends(t, "u8 x;\nvoid main() { "+x.src, []uint64{4}, steps, outcome(api.EndSteps, steps, min(steps, 1), x.x))
	}
	for _, steps := range []int{9, 10, 1 << 31, math.MaxInt} {
		ends(t, "u8 x;\nvoid main() { "+body, []uint64{4}, steps, outcome(api.EndDone, 9, 1, 2))
	}
	for _, steps := range []int{0, -1, -9, math.MinInt} {
		ends(t, "u8 x; void main() { $x = 1 / x; }", nil, steps, outcome(api.EndSteps, 0, 0, 0))
		ends(t, "u8 x; void main() { $x = nondet(); }", nil, steps, outcome(api.EndSteps, 0, 0, 0))
		ends(t, "u8 x; void main() {}", nil, steps, outcome(api.EndDone, 0, 0, 0))
	}
	// no step is left, but no statement either
	ends(t, "u8 x; void f() { if (true) { x = 1; } } void main() { f(); }", nil, 3, outcome(api.EndDone, 3, 0, 1))
	ends(t, "u8 x; void main() { $while (x == 0) {} }", nil, 77, outcome(api.EndSteps, 77, 0, 0))
}

// P5.1: what draws stand for.
func TestDraws(t *testing.T) {
	for name, want := range map[string]uint64{"bool": 0, "u8": 0xFE, "u16": 0xDCFE, "u32": 0x98BADCFE, "u64": 0x1032547698BADCFE, "i8": 0xFE, "i16": 0xDCFE, "i32": 0x98BADCFE, "i64": 0x1032547698BADCFE} {
		draws := []uint64{0x1032547698BADCFE}
		ends(t, name+" x; void main() { x = nondet(); }", draws, many, outcome(api.EndDone, 1, 1, want))
		ends(t, name+" a[2]; void main() { a[1] = nondet(); }", draws, many, outcome(api.EndDone, 1, 1, 0, want))
		ends(t, name+" x; void main() { "+name+" l; l = nondet(); x = l; }", draws, many, outcome(api.EndDone, 2, 1, want))
	}
	ends(t, "u8 x; u8 y; void main() { x = nondet(); y = nondet(); }", []uint64{5, 6, 7}, many, outcome(api.EndDone, 2, 2, 5, 6))
	// a draw isn't taken where the element isn't there
	ends(t, "u8 a[2]; void main() { $a[2] = nondet(); }", []uint64{5}, many, outcome(api.EndIndex, 1, 0, 0, 0))
}

// P5.1: an index is a number with a sign, or without, as its type says.
func TestIndexes(t *testing.T) {
	for _, name := range strings.Fields("u8 u16 u32 u64 i8 i16 i32 i64") {
		head := name + " k; u8 a[16]; void main() { k = nondet(); "
		for _, draw := range []uint64{0, 1, 15} {
			want := outcome(api.EndDone, 2, 1, append([]uint64{draw}, make([]uint64, 16)...)...)
			want.Globals[1+draw] = 9
			ends(t, head+"a[k] = 9; }", []uint64{draw}, many, want)
		}
		for _, draw := range []uint64{16, 17, 127, 128, 255, 1<<63 | 16, math.MaxUint64, math.MaxUint64 - 15} {
			width, _ := strconv.Atoi(name[1:])
			want := outcome(api.EndIndex, 2, 1, append([]uint64{draw << (64 - width) >> (64 - width)}, make([]uint64, 16)...)...)
			ends(t, head+"$a[k] = 9; }", []uint64{draw}, many, want)
			ends(t, head+"assert(1 < 2 + $a[k]); }", []uint64{draw}, many, want)
		}
	}
	// the whole number, not what is left of it
	ends(t, "u8 a[2]; void main() { $a[0x100000000] = 1; }", nil, many, outcome(api.EndIndex, 1, 0, 0, 0))
	ends(t, "u8 a[2]; u8 x; void main() { x = 255; a[x + 1] = 1; $a[(u16)x + 1] = 1; }", nil, many, outcome(api.EndIndex, 3, 0, 1, 0, 255))
	// an array's end, not that of all globals
	ends(t, "u8 a[2]; u8 b[2]; void main() { b[1] = 1; $a[2] = 1; }", nil, many, outcome(api.EndIndex, 2, 0, 0, 0, 0, 1))
	ends(t, "u8 b[2]; u8 a[2]; i8 k; void main() { k = -1; $a[k] = 1; }", nil, many, outcome(api.EndIndex, 2, 0, 0, 0, 0, 0, 255))
}

// P5.1: expressions, with the types that their operands have.
func TestValues(t *testing.T) {
	for _, x := range []struct {
		of, expr string
		want     uint64
	}{
		{"u8", "200 + 100", 44}, {"i8", "200 / 3", 238}, {"u8", "200 / 3", 66}, {"i8", "200 % 3", 254}, {"i8", "200 >> 2", 242}, {"u8", "200 >> 2", 50},
		{"i8", "(-128) / -1", 128}, {"i8", "(-128) % -1", 0}, {"u16", "3 << 15", 32768}, {"u16", "3 << 16", 0}, {"i32", "-7 >> 40", 0xFFFFFFFF},
		{"u8", "6 & 3 | 8 ^ 9", 3}, {"u64", "0 - 1", math.MaxUint64}, {"i64", "~5", math.MaxUint64 - 5}, {"u8", "-1", 255}, {"u8", "~0x0F", 0xF0},
		{"bool", "(i8)200 < (i8)3", 1}, {"bool", "(u8)200 < (u8)3", 0}, {"bool", "(i8)200 >= (i8)3", 0}, {"bool", "(u8)3 <= (u8)3", 1}, {"bool", "(i8)3 > (i8)255", 1},
		{"bool", "2 == 2", 1}, {"bool", "2 != 2", 0}, {"bool", "true == false", 0}, {"bool", "true != false", 1},
		{"bool", "!true", 0}, {"bool", "!false", 1}, {"bool", "true && false", 0}, {"bool", "true && true", 1}, {"bool", "false && true", 0}, {"bool", "false || true", 1}, {"bool", "false || false", 0}, {"bool", "true || false", 1},
		{"bool", "true & false", 0}, {"bool", "true | false", 1}, {"bool", "true ^ true", 0},
		{"i16", "(i16)(i8)200", 65480}, {"u16", "(u16)(u8)200", 200}, {"u8", "(u8)(i16)511", 255}, {"bool", "(bool)(u8)200", 1}, {"bool", "(bool)(u16)256", 1}, {"bool", "(bool)0", 0}, {"u8", "(u8)true", 1}, {"i64", "(i64)(i32)-2", math.MaxUint64 - 1},
		{"u8", "2 + 3 * 4 - 20 / 4 % 3", 12}, {"u8", "(2 + 3) * (4 - 2)", 10},
	} {
		ends(t, x.of+" x; void main() { x = "+x.expr+"; }", nil, many, outcome(api.EndDone, 1, 0, x.want))
	}
}

// P5.1: Read's errors: those of chapters 2, 3 and 4, and nothing else beside them.
func TestReadErrors(t *testing.T) {
	for _, x := range []struct {
		src       string
		line, col int
		e         api.Errno
	}{
		{"", 0, 0, api.ErrCheckMain},
		{"u8 x; void main() { x = 1; $ }", 1, 28, api.ErrLexByte},
		{"u8 x;\nvoid main() { x = 12z; }", 2, 19, api.ErrLexNumber},
		{strings.Repeat(" ", api.MaxSource+1), 0, 0, api.ErrLexLong},
		{"u8 x", 1, 5, api.ErrParseToken},
		{"void main() {" + strings.Repeat("{", 3), 1, 14, api.ErrParseToken},
		{"bool b; void main() { b = " + strings.Repeat("!", 60) + "b; }", 1, 27 + 60, api.ErrParseDeep},
		{"u8 x; void main() { x = x + 300; }", 1, 29, api.ErrCheckType},
		{"void main() { x = 1; }", 1, 15, api.ErrCheckName},
		{"u8 a[17]; void main() {}", 1, 6, api.ErrCheckSize},
		{"void f() {} void main() { f(1); }", 1, 27, api.ErrCheckCount},
		{"void main(u8 p) {}", 0, 0, api.ErrCheckMain},
	} {
		for _, steps := range []int{many, 0, -1} {
			o, line, col, e := Read(x.src, []uint64{1}, steps)
			if !reflect.DeepEqual(o, api.Outcome{}) || line != x.line || col != x.col || e != x.e {
				t.Errorf("%.40q: %v, %d, %d, %d", x.src, o, line, col, e)
			}
		}
	}
}

// P5.2: Bad and Name.
func TestBadAndName(t *testing.T) {
	for i, name := range strings.Fields("done steps draws assume assert index zero") {
		if Name(i) != name {
			t.Error(i, Name(i))
		}
		if want := slices.Contains([]string{"assert", "index", "zero"}, name); Bad(i) != want {
			t.Error(i, Bad(i))
		}
	}
	for _, end := range []int{-1, 7, 8, 100, 1 << 32, 1<<32 + 4, math.MinInt, math.MaxInt, math.MinInt + 4} {
		if Name(end) != "" || Bad(end) {
			t.Error(end, Name(end), Bad(end))
		}
	}
}

// P5.3: draws that aren't taken don't matter; with more of them a run goes the same way as far as it went.
func TestMoreDraws(t *testing.T) {
	const src = "u8 x; u8 y; void main() { while (true) { x = nondet(); y = y + x; assert(y < 100); } }"
	draws := []uint64{1, 20, 0, 60, 0, 30, 5, 5}
	for n := range draws {
		got, _, _, e := Read(src, draws[:n], many)
		want := outcome(api.EndDraws, 4*n+2, n, 0, 0)
		if n > 5 {
			want = outcome(api.EndAssert, 24, 6, 30, 111)
		} else {
			for _, v := range draws[:n] {
				want.Globals[0], want.Globals[1] = v, want.Globals[1]+v
			}
		}
		want.Line, want.Col = got.Line, got.Col
		if !same(got, want) || e != api.OK {
			t.Error(n, got, want)
		}
	}
}

// P1, Rules: what is handed in is neither changed nor kept, what is handed out is new memory.
func TestArguments(t *testing.T) {
	const src = "u8 a[3]; u8 x; u8 f(u8 p) { p = p + 1; return p; } void main() { x = nondet(); a[x] = f(x); while (x > 0) { x = x - 1; } x = nondet(); }"
	p, _, _, _ := check.Read(src)
	was, _, _, _ := check.Read(src)
	spare := []uint64{1, 7, 8, 9}
	draws := spare[:2]
	first := Run(p, draws, many)
	want := outcome(api.EndDone, 8, 2, 0, 2, 0, 7)
	if !same(first, want) {
		t.Error(first)
	}
	if !reflect.DeepEqual(p, was) || !slices.Equal(spare, []uint64{1, 7, 8, 9}) {
		t.Error(p, spare)
	}
	second := Run(p, draws, many)
	for i := range first.Globals {
		first.Globals[i] = 99
	}
	clear(draws)
	clear(p.Funcs)
	if !same(second, want) {
		t.Error(second)
	}
}

// P1: calls that don't return, as many as steps allow, and expressions in one another, as deep as a program may have them.
func TestDeep(t *testing.T) {
	const steps = 1 << 20
	ends(t, "void f() { $f(); } void main() { f(); }", nil, steps, outcome(api.EndSteps, steps, 0))
	ends(t, "u64 x; u64 f(u64 n) { if (n > 0) { $n = f(n - 1); n = n + 1; } return n; } void main() { x = f(1000000000); }", nil, steps, outcome(api.EndSteps, steps, 0, 0))
	const calls = 100000
	ends(t, "u64 x; u64 f(u64 n) { if (n > 0) { n = f(n - 1); n = n + 1; } return n; } void main() { x = f(100000); }", nil, steps, outcome(api.EndDone, 4*calls+3, 0, calls))
	ends(t, "u64 x; void main() { x = "+strings.Repeat("1+", 30000)+"1; }", nil, many, outcome(api.EndDone, 1, 0, 30001))
	ends(t, "bool b; void main() { b = "+strings.Repeat("!", 59)+"b; }", nil, many, outcome(api.EndDone, 1, 0, 1))
}

// P1: programs that no Check answers: nothing is promised of them but that the calls end.
func TestStray(t *testing.T) {
	u8 := api.Type{Width: 8}
	one := []api.Expr{{Op: "num", Type: u8, Num: 1}}
	x := []api.Expr{{Op: "var", Type: u8, Global: true}}
	with := func(l ...api.Stmt) api.Prog {
		return api.Prog{Globals: []api.Var{{Name: "x", Type: u8}}, Funcs: []api.Func{{Name: "main", Body: l}}}
	}
	stray := []api.Prog{
		{}, {Main: -1}, {Main: 1}, {Main: math.MaxInt}, {Funcs: make([]api.Func, 2), Main: 2}, {Funcs: make([]api.Func, 2), Main: math.MinInt},
		{Globals: []api.Var{{Size: math.MaxInt}}, Funcs: make([]api.Func, 1)},
		{Globals: []api.Var{{Size: 1 << 40}}, Funcs: make([]api.Func, 1)},
		{Globals: []api.Var{{Size: -1}}, Funcs: make([]api.Func, 1)},
		{Globals: []api.Var{{Size: math.MinInt}}, Funcs: make([]api.Func, 1)},
		{Funcs: []api.Func{{Params: -1}}}, {Funcs: []api.Func{{Params: math.MaxInt}}},
		with(api.Stmt{}), with(api.Stmt{Op: "none"}), with(api.Stmt{Op: "local"}), with(api.Stmt{Op: "call", Func: 1}), with(api.Stmt{Op: "call", Func: -1}),
		with(api.Stmt{Op: "call", Exprs: one}), with(api.Stmt{Op: "call", Target: one}), with(api.Stmt{Op: "while", Exprs: one}),
		with(api.Stmt{Op: "while", Exprs: one, Then: []api.Stmt{{}}}),
	}
	for _, op := range strings.Fields("assign nondet call if while return assert assume") {
		stray = append(stray, with(api.Stmt{Op: op}), with(api.Stmt{Op: op, Target: x}), with(api.Stmt{Op: op, Target: x, Exprs: make([]api.Expr, 1)}))
		for _, of := range []api.Expr{{Op: "var"}, {Op: "var", Global: true, Var: 1}, {Op: "var", Var: -1}, {Op: "var", Global: true, Var: -1}, {Op: "index", Global: true}, {Op: "index", Global: true, Var: 7, Kids: one}, {Op: "index", Kids: one}, {Op: "cast"}, {Op: "u!"}, {Op: "u"}, {Op: "&&"}, {Op: "||"}, {Op: "=="}, {Op: "+"}, {Op: "+", Kids: one}, {Op: "?", Kids: append(one, one...)}} {
			stray = append(stray, with(api.Stmt{Op: op, Target: []api.Expr{of}, Exprs: one}), with(api.Stmt{Op: op, Target: x, Exprs: []api.Expr{of}}))
		}
	}
	for _, p := range stray {
		for _, steps := range []int{-1, 0, 1, 50} {
			Run(p, []uint64{1, 2}, steps)
			Run(p, nil, steps)
		}
	}
	for _, p := range []api.Prog{{}, with(api.Stmt{Op: "none"}), with(api.Stmt{Op: "call", Func: 1})} {
		if o := Run(p, nil, many); !reflect.DeepEqual(o, api.Outcome{}) {
			t.Error(p, o)
		}
	}
}
