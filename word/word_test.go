package word

import (
	"math"
	"testing"

	"skua/api"
)

// allTypes is written out again, so that a fault in the package's own table is seen.
var allTypes = []struct {
	name string
	t    api.Type
}{
	{"bool", api.Type{Width: 1, Signed: false}},
	{"u8", api.Type{Width: 8, Signed: false}}, {"u16", api.Type{Width: 16, Signed: false}},
	{"u32", api.Type{Width: 32, Signed: false}}, {"u64", api.Type{Width: 64, Signed: false}},
	{"i8", api.Type{Width: 8, Signed: true}}, {"i16", api.Type{Width: 16, Signed: true}},
	{"i32", api.Type{Width: 32, Signed: true}}, {"i64", api.Type{Width: 64, Signed: true}},
}

var wrongTypes = []api.Type{
	{}, {Signed: true}, {Width: 1, Signed: true}, {Width: 2}, {Width: 7}, {Width: 9, Signed: true}, {Width: 24}, {Width: 63}, {Width: 65}, {Width: 128}, {Width: 256, Signed: true},
	{Width: -1}, {Width: -8}, {Width: -64, Signed: true}, {Width: 8 + 1<<32}, {Width: math.MaxInt}, {Width: math.MinInt, Signed: true},
}

var (
	boolType = api.Type{Width: 1}
	u8       = api.Type{Width: 8}
	u16      = api.Type{Width: 16}
	u32      = api.Type{Width: 32}
	u64      = api.Type{Width: 64}
	i8       = api.Type{Width: 8, Signed: true}
	i16      = api.Type{Width: 16, Signed: true}
	i32      = api.Type{Width: 32, Signed: true}
	i64      = api.Type{Width: 64, Signed: true}
)

// P1.1: Right and Name.
func TestRightAndName(t *testing.T) {
	right := map[api.Type]string{}
	for _, x := range allTypes {
		right[x.t] = x.name
		if !Right(x.t) || Name(x.t) != x.name {
			t.Errorf("%v: right %v, name %q, want %q", x.t, Right(x.t), Name(x.t), x.name)
		}
	}
	for _, x := range wrongTypes {
		if Right(x) || Name(x) != "" {
			t.Errorf("%v: right %v, name %q", x, Right(x), Name(x))
		}
	}
	for width := -130; width <= 130; width++ {
		for _, signed := range []bool{false, true} {
			x := api.Type{Width: width, Signed: signed}
			name, may := right[x]
			if Right(x) != may || Name(x) != name {
				t.Errorf("%v: right %v, name %q, want %v, %q", x, Right(x), Name(x), may, name)
			}
		}
	}
}

// P1.1: Of.
func TestOf(t *testing.T) {
	for _, x := range allTypes {
		if got, ok := Of(x.name); !ok || got != x.t {
			t.Errorf("%q: %v, %v", x.name, got, ok)
		}
	}
	for _, name := range []string{"", "u1", "i1", "u", "i", "8", "u7", "u128", "i128", "U8", "I8", "Bool", "bool ", " u8", "u8\x00", "u08", "u-8", "void", "int", "u8u8", "\xff"} {
		if got, ok := Of(name); ok || got != (api.Type{}) {
			t.Errorf("%q: %v, %v", name, got, ok)
		}
	}
}

// P1.1: Norm and Int, at the edges of each width.
func TestNormAndInt(t *testing.T) {
	for i, x := range []struct {
		t    api.Type
		v    uint64
		norm uint64
		is   int64
	}{
		{boolType, 0, 0, 0}, {boolType, 1, 1, 1}, {boolType, 2, 0, 0}, {boolType, 3, 1, 1}, {boolType, math.MaxUint64, 1, 1},
		{u8, 127, 127, 127}, {u8, 128, 128, 128}, {u8, 255, 255, 255}, {u8, 256, 0, 0}, {u8, 456, 200, 200}, {u8, math.MaxUint64, 255, 255},
		{i8, 127, 127, 127}, {i8, 128, 128, -128}, {i8, 200, 200, -56}, {i8, 255, 255, -1}, {i8, 256, 0, 0}, {i8, 456, 200, -56}, {i8, math.MaxUint64, 255, -1},
		{u16, 1<<16 - 1, 1<<16 - 1, 1<<16 - 1}, {u16, 1 << 16, 0, 0}, {u16, 1<<16 + 5, 5, 5},
		{i16, 1<<15 - 1, 1<<15 - 1, 1<<15 - 1}, {i16, 1 << 15, 1 << 15, -1 << 15}, {i16, 1<<16 - 1, 1<<16 - 1, -1}, {i16, 1 << 16, 0, 0},
		{u32, 1<<32 - 1, 1<<32 - 1, 1<<32 - 1}, {u32, 1 << 32, 0, 0}, {u32, 1<<63 + 7, 7, 7},
		{i32, 1<<31 - 1, 1<<31 - 1, 1<<31 - 1}, {i32, 1 << 31, 1 << 31, -1 << 31}, {i32, 1<<32 - 1, 1<<32 - 1, -1}, {i32, 1 << 32, 0, 0},
		{u64, 1 << 63, 1 << 63, math.MinInt64}, {u64, math.MaxUint64, math.MaxUint64, -1}, {u64, math.MaxInt64, math.MaxInt64, math.MaxInt64},
		{i64, 1 << 63, 1 << 63, math.MinInt64}, {i64, math.MaxUint64, math.MaxUint64, -1}, {i64, math.MaxInt64, math.MaxInt64, math.MaxInt64},
	} {
		if norm, is := Norm(x.t, x.v), Int(x.t, x.v); norm != x.norm || is != x.is {
			t.Errorf("%d: %v of %d: %d, %d, want %d, %d", i, x.t, x.v, norm, is, x.norm, x.is)
		}
	}
	for _, x := range wrongTypes {
		for _, v := range []uint64{0, 1, 200, math.MaxUint64} {
			if Norm(x, v) != 0 || Int(x, v) != 0 {
				t.Errorf("%v of %d: %d, %d", x, v, Norm(x, v), Int(x, v))
			}
		}
	}
}

// P1.3: Cast.
func TestCast(t *testing.T) {
	for i, x := range []struct {
		from, to api.Type
		v, want  uint64
	}{
		{i8, i16, 200, 65480}, {i8, u8, 200, 200}, {i8, boolType, 200, 1},
		{i8, u16, 200, 65480}, {i8, u64, 200, math.MaxUint64 - 55}, {i8, i64, 128, math.MaxUint64 - 127}, {i8, u32, 127, 127},
		{u8, i8, 200, 200}, {u8, i16, 200, 200}, {u8, i64, 255, 255},
		{u16, i8, 456, 200}, {i16, u8, 1 << 15, 0}, {i16, i32, 1 << 15, 1<<32 - 1<<15}, {i32, i64, 1 << 31, math.MaxUint64 - 1<<31 + 1}, {u32, i64, 1 << 31, 1 << 31},
		{u64, i64, math.MaxUint64, math.MaxUint64}, {i64, u64, 1 << 63, 1 << 63}, {u64, u32, 1<<32 + 9, 9}, {i64, i8, math.MaxUint64, 255},
		{u8, i16, 456, 200}, {i8, i16, 456, 65480}, // values from 2^Width on count as Norm's first
		{u8, boolType, 0, 0}, {u8, boolType, 1, 1}, {u8, boolType, 2, 1}, {u8, boolType, 256, 0}, {u8, boolType, 257, 1}, {i64, boolType, 1 << 63, 1}, {u16, boolType, 1 << 15, 1}, {u16, boolType, 1 << 16, 0},
		{boolType, i8, 1, 1}, {boolType, u64, 1, 1}, {boolType, i64, 0, 0}, {boolType, i8, 2, 0}, {boolType, i8, 3, 1},
		{boolType, boolType, 0, 0}, {boolType, boolType, 1, 1}, {boolType, boolType, 2, 0}, {boolType, boolType, 3, 1},
	} {
		if v := Cast(x.from, x.to, x.v); v != x.want {
			t.Errorf("%d: %s %d to %s: %d, want %d", i, Name(x.from), x.v, Name(x.to), v, x.want)
		}
	}
	for _, wrong := range wrongTypes {
		for _, x := range allTypes {
			if a, b := Cast(wrong, x.t, 77), Cast(x.t, wrong, 77); a != 0 || b != 0 {
				t.Errorf("%v and %s: %d, %d", wrong, x.name, a, b)
			}
		}
		if v := Cast(wrong, wrong, 77); v != 0 {
			t.Errorf("%v: %d", wrong, v)
		}
	}
}
