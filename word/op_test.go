package word

import (
	"fmt"
	"math"
	"math/big"
	"slices"
	"testing"

	"skua/api"
)

var (
	doOps   = []string{"+", "-", "*", "/", "%", "&", "|", "^", "<<", ">>"}
	testOps = []string{"==", "!=", "<", "<=", ">", ">="}
	turnOps = []string{"-", "~", "!"}
	noOps   = []string{"", "=", "&&", "||", "**", "//", "<<<", ">>>", "&^", "u-", "u!", "u~", "+ ", " +", "+\x00", "add", "<>", "=<", "\xff", "÷"}
)

// stood is what a value stands for, in whole numbers without a bound, as the chapter's section Words says it.
func stood(t api.Type, v uint64) *big.Int {
	all := new(big.Int).Lsh(big.NewInt(1), uint(t.Width))
	x := new(big.Int).Mod(new(big.Int).SetUint64(v), all)
	half := new(big.Int).Lsh(big.NewInt(1), uint(t.Width)-1)
	if t.Signed && x.Cmp(half) >= 0 {
		x.Sub(x, all)
	}
	return x
}

// valueOf is the value that a whole number stands for.
func valueOf(t api.Type, x *big.Int) uint64 {
	return new(big.Int).Mod(x, new(big.Int).Lsh(big.NewInt(1), uint(t.Width))).Uint64()
}

// wantDo is what P1.2 asks of Do, in whole numbers without a bound.
func wantDo(t api.Type, op string, a, b uint64) (uint64, api.Errno) {
	if t.Width == 1 && op != "&" && op != "|" && op != "^" {
		return 0, api.ErrWordOp
	}
	x, y, z := stood(t, a), stood(t, b), new(big.Int)
	switch op {
	case "+":
		z.Add(x, y)
	case "-":
		z.Sub(x, y)
	case "*":
		z.Mul(x, y)
	case "/", "%":
		if y.Sign() == 0 {
			return 0, api.ErrWordZero
		}
		rest := new(big.Int)
		z.QuoRem(x, y, rest)
		if op == "%" {
			z = rest
		}
	case "&":
		z.And(x, y)
	case "|":
		z.Or(x, y)
	case "^":
		z.Xor(x, y)
	case "<<", ">>":
		z = wantShift(t, op, x, stood(api.Type{Width: t.Width}, b))
	}
	return valueOf(t, z), api.OK
}

func wantShift(t api.Type, op string, x, by *big.Int) *big.Int {
	z := new(big.Int)
	far := by.Cmp(big.NewInt(int64(t.Width))) >= 0
	switch {
	case far && op == ">>" && x.Sign() < 0:
		return big.NewInt(-1)
	case far:
		return z
	}
	power := new(big.Int).Exp(big.NewInt(2), by, nil)
	if op == "<<" {
		return z.Mul(x, power)
	}
	return z.Div(x, power) // rounded down, as the power is above 0
}

// wantTest is what P1.3 asks of Test.
func wantTest(t api.Type, op string, a, b uint64) (bool, api.Errno) {
	if t.Width == 1 && op != "==" && op != "!=" {
		return false, api.ErrWordOp
	}
	c := stood(t, a).Cmp(stood(t, b))
	is := map[string]bool{"==": c == 0, "!=": c != 0, "<": c < 0, "<=": c <= 0, ">": c > 0, ">=": c >= 0}[op]
	return is, api.OK
}

// wantTurn is what P1.3 asks of Turn.
func wantTurn(t api.Type, op string, a uint64) (uint64, api.Errno) {
	if (t.Width == 1) != (op == "!") {
		return 0, api.ErrWordOp
	}
	x := stood(t, a)
	switch op {
	case "-":
		return valueOf(t, x.Neg(x)), api.OK
	case "~":
		return valueOf(t, x.Not(x)), api.OK
	}
	return 1 - x.Uint64(), api.OK
}

// edges is the values of a type around its ends and its middle, around shifts, and beyond 2^Width.
func edges(t api.Type) []uint64 {
	half, w := uint64(1)<<(t.Width-1), uint64(t.Width)
	all := half << 1 // of width 64: 0
	l := []uint64{0, 1, 2, 3, 7, w - 1, w, w + 1, 2 * w, half - 1, half, half + 1, half + w, all - 1, all - 2, all - 3, all - w, all, all + 1, all + w, all + half, 3*all + 5}
	return append(l, 1<<63, 1<<32, 1<<32+3, math.MaxUint64, math.MaxUint64-1, 0x0123456789abcdef, 0xfedcba9876543210, 0xaaaaaaaaaaaaaaaa)
}

// sameAsAsked holds all calls of operators against what is asked of them.
func sameAsAsked(t *testing.T, x api.Type, a, b uint64) {
	t.Helper()
	for _, op := range doOps {
		want, fault := wantDo(x, op, a, b)
		if v, e := Do(x, op, a, b); v != want || e != fault {
			t.Fatalf("%s: %d %s %d: %d, %d, want %d, %d", Name(x), a, op, b, v, e, want, fault)
		}
	}
	for _, op := range testOps {
		want, fault := wantTest(x, op, a, b)
		if is, e := Test(x, op, a, b); is != want || e != fault {
			t.Fatalf("%s: %d %s %d: %v, %d, want %v, %d", Name(x), a, op, b, is, e, want, fault)
		}
	}
}

// P1.2: what the chapter's examples and its named edges come to, written out.
func TestDoExamples(t *testing.T) {
	const top = math.MaxUint64
	for i, x := range []struct {
		t          api.Type
		op         string
		a, b, want uint64
	}{
		{i8, "/", 200, 3, 238}, {i8, "%", 200, 3, 254}, {i8, ">>", 200, 2, 242}, {u8, "+", 200, 100, 44},
		// the least number and -1
		{i8, "/", 128, 255, 128}, {i8, "%", 128, 255, 0}, {i16, "/", 1 << 15, 1<<16 - 1, 1 << 15}, {i16, "%", 1 << 15, 1<<16 - 1, 0},
		{i32, "/", 1 << 31, 1<<32 - 1, 1 << 31}, {i32, "%", 1 << 31, 1<<32 - 1, 0}, {i64, "/", 1 << 63, top, 1 << 63}, {i64, "%", 1 << 63, top, 0},
		// without a sign they are ordinary numbers
		{u8, "/", 128, 255, 0}, {u8, "%", 128, 255, 128}, {u64, "/", 1 << 63, top, 0}, {u64, "%", 1 << 63, top, 1 << 63},
		// quotients are rounded towards 0, rests have the dividend's sign
		{i8, "/", 7, 254, 253}, {i8, "%", 7, 254, 1}, {i8, "/", 249, 2, 253}, {i8, "%", 249, 2, 255}, {i8, "/", 249, 254, 3}, {i8, "%", 249, 254, 255},
		// shifts from Width on
		{u8, "<<", 1, 7, 128}, {u8, "<<", 1, 8, 0}, {u8, "<<", 255, 255, 0}, {u8, ">>", 255, 7, 1}, {u8, ">>", 255, 8, 0},
		{i8, "<<", 255, 8, 0}, {i8, ">>", 128, 7, 255}, {i8, ">>", 128, 8, 255}, {i8, ">>", 127, 8, 0}, {i8, ">>", 129, 255, 255}, {i8, "<<", 1, 255, 0},
		{u16, ">>", 1 << 15, 16, 0}, {i16, ">>", 1 << 15, 16, 1<<16 - 1}, {u32, "<<", 1, 32, 0}, {i32, ">>", 1 << 31, 1 << 31, 1<<32 - 1},
		{u64, "<<", 1, 63, 1 << 63}, {u64, "<<", 1, 64, 0}, {u64, ">>", top, 64, 0}, {u64, ">>", top, top, 0}, {i64, ">>", 1 << 63, 64, top}, {i64, ">>", 1 << 63, top, top}, {i64, ">>", 5, top, 0},
		// b counts as Norm's value: a shift by 2^Width is none
		{u8, "<<", 3, 256, 3}, {i8, ">>", 200, 258, 242},
		// values beyond 2^Width
		{u8, "+", 456, 356, 44}, {u8, "/", 1<<40 + 200, 256 + 3, 66}, {i8, "/", 1<<40 + 200, 256 + 3, 238}, {u8, "|", 5, 0x102, 7}, {u16, "*", 300, 300, 24464},
		// width 1
		{boolType, "&", 1, 1, 1}, {boolType, "&", 1, 2, 0}, {boolType, "|", 0, 3, 1}, {boolType, "^", 1, 1, 0}, {boolType, "^", 1, 0, 1},
	} {
		if v, e := Do(x.t, x.op, x.a, x.b); v != x.want || e != api.OK {
			t.Errorf("%d: %s: %d %s %d: %d, %d, want %d", i, Name(x.t), x.a, x.op, x.b, v, e, x.want)
		}
	}
}

// P1.3: Test, written out.
func TestTestExamples(t *testing.T) {
	for i, x := range []struct {
		t    api.Type
		op   string
		a, b uint64
		want bool
	}{
		{i8, "<", 200, 5, true}, {u8, "<", 200, 5, false}, {u8, "<", 5, 5, false}, {i8, "<=", 128, 127, true}, {u8, "<=", 128, 127, false}, {u8, "<=", 5, 261, true},
		{i8, ">", 0, 255, true}, {u8, ">", 0, 255, false}, {i8, ">=", 128, 127, false}, {u8, ">=", 128, 127, true}, {u8, ">=", 9, 9, true}, {u8, ">", 9, 9, false},
		{i64, "<", 1 << 63, 0, true}, {u64, "<", 1 << 63, 0, false}, {i64, ">", math.MaxUint64, 1 << 63, true}, {u64, ">", math.MaxUint64, 1 << 63, true},
		{u8, "==", 1, 257, true}, {u8, "!=", 1, 257, false}, {i16, "==", 1 << 15, 1<<15 + 1, false}, {i16, "!=", 1 << 15, 1<<15 + 1, true},
		{boolType, "==", 1, 3, true}, {boolType, "==", 0, 1, false}, {boolType, "!=", 0, 2, false}, {boolType, "!=", 0, 1, true},
	} {
		if is, e := Test(x.t, x.op, x.a, x.b); is != x.want || e != api.OK {
			t.Errorf("%d: %s: %d %s %d: %v, %d, want %v", i, Name(x.t), x.a, x.op, x.b, is, e, x.want)
		}
	}
}

// P1.2, P1.3: all pairs of values of 8 bits and of 1 bit.
func TestEveryPairOfSmallWidths(t *testing.T) {
	for _, x := range []api.Type{boolType, u8, i8} {
		all := uint64(1) << x.Width
		for a := range all {
			for b := range all {
				sameAsAsked(t, x, a, b)
			}
		}
	}
}

// P1.2, P1.3: the edges of all widths, values beyond 2^Width among them.
func TestEdgesOfEveryWidth(t *testing.T) {
	for _, x := range allTypes {
		for _, a := range edges(x.t) {
			for _, b := range edges(x.t) {
				sameAsAsked(t, x.t, a, b)
			}
		}
	}
}

// P1.3: Turn.
func TestTurn(t *testing.T) {
	for _, x := range allTypes {
		values := edges(x.t)
		for v := range uint64(256) {
			values = append(values, v)
		}
		for _, op := range turnOps {
			for _, a := range values {
				want, fault := wantTurn(x.t, op, a)
				if v, e := Turn(x.t, op, a); v != want || e != fault {
					t.Fatalf("%s: %s %d: %d, %d, want %d, %d", x.name, op, a, v, e, want, fault)
				}
			}
		}
	}
	for i, x := range []struct {
		t       api.Type
		op      string
		a, want uint64
	}{
		{i8, "-", 128, 128}, {i64, "-", 1 << 63, 1 << 63}, {u8, "-", 1, 255}, {u8, "-", 0, 0}, {u8, "-", 257, 255},
		{u8, "~", 5, 250}, {i16, "~", 0, 1<<16 - 1}, {u64, "~", 0, math.MaxUint64},
		{boolType, "!", 0, 1}, {boolType, "!", 1, 0}, {boolType, "!", 2, 1}, {boolType, "!", 3, 0},
	} {
		if v, e := Turn(x.t, x.op, x.a); v != x.want || e != api.OK {
			t.Errorf("%d: %s: %s %d: %d, %d, want %d", i, Name(x.t), x.op, x.a, v, e, x.want)
		}
	}
}

// P1.3: Cast between all types, at the edges of the one that is cast.
func TestCastOfEdges(t *testing.T) {
	for _, from := range allTypes {
		for _, to := range allTypes {
			for _, v := range edges(from.t) {
				want := valueOf(to.t, stood(from.t, v))
				if to.t.Width == 1 {
					want = uint64(stood(from.t, v).CmpAbs(big.NewInt(0)))
				}
				if is := Cast(from.t, to.t, v); is != want {
					t.Errorf("%s %d to %s: %d, want %d", from.name, v, to.name, is, want)
				}
			}
		}
	}
}

// faults is the errors of all three calls of operators; that all else is nought beside an error is asked on the way.
func faults(t *testing.T, x api.Type, op string, a, b uint64) [3]api.Errno {
	t.Helper()
	v, do := Do(x, op, a, b)
	is, test := Test(x, op, a, b)
	w, turn := Turn(x, op, a)
	if do != api.OK && v != 0 || test != api.OK && is || turn != api.OK && w != 0 {
		t.Errorf("%v: %d %q %d: %d %d, %v %d, %d %d", x, a, op, b, v, do, is, test, w, turn)
	}
	return [3]api.Errno{do, test, turn}
}

// P1.2, P1.3, P1: wrong types go ahead of wrong operators, those ahead of a divisor of 0.
func TestErrorsInOrder(t *testing.T) {
	ops := slices.Concat(doOps, testOps, turnOps, noOps)
	for _, wrong := range wrongTypes {
		for _, op := range ops {
			for _, b := range []uint64{0, 1} {
				if f := faults(t, wrong, op, 5, b); f != [3]api.Errno{api.ErrWordType, api.ErrWordType, api.ErrWordType} {
					t.Errorf("%v: %q: %v", wrong, op, f)
				}
			}
		}
	}
	for _, x := range allTypes {
		for _, op := range noOps {
			if f := faults(t, x.t, op, 1, 0); f != [3]api.Errno{api.ErrWordOp, api.ErrWordOp, api.ErrWordOp} {
				t.Errorf("%s: %q: %v", x.name, op, f)
			}
		}
	}
	for i, x := range []struct {
		t    api.Type
		op   string
		b    uint64
		want api.Errno
	}{
		{u8, "/", 0, api.ErrWordZero}, {u8, "%", 0, api.ErrWordZero}, {i64, "/", 0, api.ErrWordZero}, {i64, "%", 0, api.ErrWordZero},
		{u8, "/", 256, api.ErrWordZero}, {i16, "%", 1 << 16, api.ErrWordZero}, {u32, "/", 1 << 40, api.ErrWordZero}, {u16, "/", 256, api.OK},
		{boolType, "/", 0, api.ErrWordOp}, {boolType, "%", 0, api.ErrWordOp}, {boolType, "/", 1, api.ErrWordOp}, {boolType, "<<", 0, api.ErrWordOp}, {boolType, "+", 1, api.ErrWordOp},
		{u8, "==", 0, api.ErrWordOp}, {u8, "<", 0, api.ErrWordOp}, {u8, "~", 0, api.ErrWordOp}, {u8, "!", 0, api.ErrWordOp},
	} {
		if v, e := Do(x.t, x.op, 200, x.b); e != x.want || e != api.OK && v != 0 {
			t.Errorf("%d: %s %q: %d, %d, want %d", i, Name(x.t), x.op, v, e, x.want)
		}
	}
}

// P1.2, P1.3: which operators each of the calls has.
func TestOperatorsOfEachCall(t *testing.T) {
	ops := slices.Concat(doOps, testOps, turnOps)
	errorOf := func(may bool) api.Errno {
		if may {
			return api.OK
		}
		return api.ErrWordOp
	}
	for _, x := range allTypes {
		do, test, turn := doOps, testOps, []string{"-", "~"}
		if x.t.Width == 1 {
			do, test, turn = []string{"&", "|", "^"}, []string{"==", "!="}, []string{"!"}
		}
		for _, op := range ops {
			want := [3]api.Errno{errorOf(slices.Contains(do, op)), errorOf(slices.Contains(test, op)), errorOf(slices.Contains(turn, op))}
			if f := faults(t, x.t, op, 1, 1); f != want {
				t.Errorf("%s: %q: %v, want %v", x.name, op, f, want)
			}
		}
	}
}

// done is Do where no error may be.
func done(t *testing.T, x api.Type, op string, a, b uint64) uint64 {
	t.Helper()
	v, e := Do(x, op, a, b)
	if e != api.OK {
		t.Fatalf("%s: %d %s %d: error %d", Name(x), a, op, b, e)
	}
	return v
}

// P1.4: the quotient times the divisor, and the rest, are the dividend.
func TestQuotientAndRest(t *testing.T) {
	for _, x := range allTypes[1:] {
		for _, a := range edges(x.t) {
			for _, b := range edges(x.t) {
				if Norm(x.t, b) == 0 {
					continue
				}
				product := done(t, x.t, "*", done(t, x.t, "/", a, b), b)
				if sum := done(t, x.t, "+", product, done(t, x.t, "%", a, b)); sum != Norm(x.t, a) {
					t.Errorf("%s: %d and %d: %d", x.name, a, b, sum)
				}
			}
		}
	}
}

// P1.4: a value that is cast to a wider type and back is itself.
func TestCastAndBack(t *testing.T) {
	for _, x := range allTypes {
		for _, y := range allTypes {
			if y.t.Width <= x.t.Width {
				continue
			}
			for _, v := range edges(x.t) {
				if back := Cast(y.t, x.t, Cast(x.t, y.t, v)); back != Norm(x.t, v) {
					t.Errorf("%s to %s and back: %d: %d", x.name, y.name, v, back)
				}
			}
		}
	}
}

// P1.4: signs don't matter to sums, differences and products.
func TestSignsDontMatter(t *testing.T) {
	for _, width := range []int{8, 16, 32, 64} {
		u, i := api.Type{Width: width}, api.Type{Width: width, Signed: true}
		for _, op := range []string{"+", "-", "*"} {
			for _, a := range edges(u) {
				for _, b := range edges(u) {
					if x, y := done(t, u, op, a, b), done(t, i, op, a, b); x != y {
						t.Errorf("%d bits: %d %s %d: %d, %d", width, a, op, b, x, y)
					}
				}
			}
		}
	}
}

// P1: no call panics, and every value is one of its type, whatever the arguments.
func TestAnyArguments(t *testing.T) {
	types := append([]api.Type{}, wrongTypes...)
	for _, x := range allTypes {
		types = append(types, x.t)
	}
	ops := slices.Concat(doOps, testOps, turnOps, noOps)
	numbers := []uint64{0, 1, 8, 64, 255, 256, 1 << 31, 1 << 63, math.MaxUint64}
	for _, x := range types {
		for _, a := range numbers {
			for _, y := range types {
				if v := Cast(x, y, a); v != Norm(y, v) {
					t.Errorf("cast %v to %v of %d: %d", x, y, a, v)
				}
			}
			for _, b := range numbers {
				for _, op := range ops {
					anyOperator(t, x, op, a, b)
				}
			}
		}
	}
}

func anyOperator(t *testing.T, x api.Type, op string, a, b uint64) {
	t.Helper()
	what := func() string { return fmt.Sprintf("%v: %d %q %d", x, a, op, b) }
	defer func() {
		if r := recover(); r != nil {
			t.Error(what(), "panics:", r)
		}
	}()
	faults(t, x, op, a, b)
	if v, _ := Do(x, op, a, b); v != Norm(x, v) {
		t.Error(what(), "is", v)
	}
	if v, _ := Turn(x, op, a); v != Norm(x, v) {
		t.Error(what(), "turned is", v)
	}
}

func BenchmarkDo(b *testing.B) {
	for b.Loop() {
		Do(i32, "/", 12345678, 77)
	}
}
