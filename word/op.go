package word

import (
	"skua/api"
)

// Do is what an operator makes of two values of one type.
func Do(t api.Type, op string, a, b uint64) (uint64, api.Errno) {
	if !Right(t) {
		return 0, api.ErrWordType
	}
	do, ok := doer(t, op)
	if !ok {
		return 0, api.ErrWordOp
	}
	a, b = low(t, a), low(t, b)
	if b == 0 && divides(op) {
		return 0, api.ErrWordZero
	}
	return low(t, do(a, b)), api.OK
}

// Test is whether two values of one type are as an operator says.
func Test(t api.Type, op string, a, b uint64) (bool, api.Errno) {
	if !Right(t) {
		return false, api.ErrWordType
	}
	is, ok := tester(t, op)
	if !ok {
		return false, api.ErrWordOp
	}
	return is(low(t, a), low(t, b)), api.OK
}

// Turn is what an operator makes of one value.
func Turn(t api.Type, op string, a uint64) (uint64, api.Errno) {
	if !Right(t) {
		return 0, api.ErrWordType
	}
	turn, ok := turner(t, op)
	if !ok {
		return 0, api.ErrWordOp
	}
	return low(t, turn(low(t, a))), api.OK
}

func divides(op string) bool { return op == "/" || op == "%" }

// The maps below are asked where they are made, not handed out: so they need no memory that outlives the call, which counts where runs of programs call Do at each step.

// doer is what an operator of Do does with values of a type; beyond its width the answer may have any bits.
func doer(t api.Type, op string) (func(a, b uint64) uint64, bool) {
	if t.Width > 1 {
		if do, ok := reckoner(t, op); ok {
			return do, true
		}
	}
	return joiner(op)
}

// joiner is of the operators that all types have.
func joiner(op string) (func(a, b uint64) uint64, bool) {
	do, ok := map[string]func(a, b uint64) uint64{
		"&": func(a, b uint64) uint64 { return a & b },
		"|": func(a, b uint64) uint64 { return a | b },
		"^": func(a, b uint64) uint64 { return a ^ b },
	}[op]
	return do, ok
}

// reckoner is of the operators that width 1 doesn't have. The least number divided by -1 needs no care, as Go's own quotient wraps round and Do cuts it to the width; nor do great shifts, as Go's have no bound.
func reckoner(t api.Type, op string) (func(a, b uint64) uint64, bool) {
	do, ok := map[string]func(a, b uint64) uint64{
		"+": func(a, b uint64) uint64 { return a + b },
		"-": func(a, b uint64) uint64 { return a - b },
		"*": func(a, b uint64) uint64 { return a * b },
		"/": func(a, b uint64) uint64 {
			if t.Signed {
				return uint64(stands(t, a) / stands(t, b))
			}
			return a / b
		},
		"%": func(a, b uint64) uint64 {
			if t.Signed {
				return uint64(stands(t, a) % stands(t, b))
			}
			return a % b
		},
		"<<": func(a, b uint64) uint64 { return a << b },
		">>": func(a, b uint64) uint64 {
			if t.Signed {
				return uint64(stands(t, a) >> b)
			}
			return a >> b
		},
	}[op]
	return do, ok
}

// tester is how an operator of Test holds values of a type against each other.
func tester(t api.Type, op string) (func(a, b uint64) bool, bool) {
	if t.Width > 1 {
		if is, ok := orderer(t, op); ok {
			return is, true
		}
	}
	is, ok := map[string]func(a, b uint64) bool{
		"==": func(a, b uint64) bool { return a == b },
		"!=": func(a, b uint64) bool { return a != b },
	}[op]
	return is, ok
}

// orderer is of the tests that width 1 doesn't have.
func orderer(t api.Type, op string) (func(a, b uint64) bool, bool) {
	less := func(a, b uint64) bool {
		if t.Signed {
			return stands(t, a) < stands(t, b)
		}
		return a < b
	}
	is, ok := map[string]func(a, b uint64) bool{
		"<":  less,
		"<=": func(a, b uint64) bool { return !less(b, a) },
		">":  func(a, b uint64) bool { return less(b, a) },
		">=": func(a, b uint64) bool { return !less(a, b) },
	}[op]
	return is, ok
}

// turner is what an operator of Turn does; width 1 has one of its own, and none of the others.
func turner(t api.Type, op string) (func(a uint64) uint64, bool) {
	if t.Width == 1 {
		turn, ok := map[string]func(a uint64) uint64{
			"!": func(a uint64) uint64 { return 1 - a },
		}[op]
		return turn, ok
	}
	turn, ok := map[string]func(a uint64) uint64{
		"-": func(a uint64) uint64 { return -a },
		"~": func(a uint64) uint64 { return ^a },
	}[op]
	return turn, ok
}
