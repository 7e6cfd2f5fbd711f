// Package word is layer 1: numbers of a few widths, with and without a sign. See shared/doc/01-word.md.
package word

import (
	"skua/api"
)

// named is a type with its name.
type named struct {
	name string
	of   api.Type
}

// types is all types that may be: whether one may be and what it is called are both asked of this table, so that they can't differ.
var types = []named{
	{"bool", api.Type{Width: 1}},
	{"u8", api.Type{Width: 8}},
	{"u16", api.Type{Width: 16}},
	{"u32", api.Type{Width: 32}},
	{"u64", api.Type{Width: 64}},
	{"i8", api.Type{Width: 8, Signed: true}},
	{"i16", api.Type{Width: 16, Signed: true}},
	{"i32", api.Type{Width: 32, Signed: true}},
	{"i64", api.Type{Width: 64, Signed: true}},
}

// Right is whether a type may be.
func Right(t api.Type) bool { return Name(t) != "" }

// Name is a type's name.
func Name(t api.Type) string {
	for _, n := range types {
		if n.of == t {
			return n.name
		}
	}
	return ""
}

// Of is the type of a name; false: there is none.
func Of(name string) (api.Type, bool) {
	for _, n := range types {
		if n.name == name {
			return n.of, true
		}
	}
	return api.Type{}, false
}

// Norm is the value of a type that a number stands for.
func Norm(t api.Type, v uint64) uint64 {
	if !Right(t) {
		return 0
	}
	return low(t, v)
}

// Int is what a value of a type is as a number with a sign.
func Int(t api.Type, v uint64) int64 {
	if !Right(t) {
		return 0
	}
	return stands(t, v)
}

// Cast is a value of one type as one of another.
func Cast(from, to api.Type, v uint64) uint64 {
	if !Right(from) || !Right(to) {
		return 0
	}
	if to.Width == 1 {
		return truth(low(from, v) != 0)
	}
	return low(to, uint64(stands(from, v)))
}

// low is Norm of a type that is known to be right.
func low(t api.Type, v uint64) uint64 {
	above := 64 - t.Width
	return v << above >> above
}

// stands is Int of a type that is known to be right.
func stands(t api.Type, v uint64) int64 {
	if !t.Signed {
		return int64(low(t, v))
	}
	// The topmost bit of the value becomes that of an int64, whose shift to the right then repeats it.
	above := 64 - t.Width
	return int64(v<<above) >> above
}

func truth(is bool) uint64 {
	if is {
		return 1
	}
	return 0
}
