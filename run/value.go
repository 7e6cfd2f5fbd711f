package run

import (
	"skua/api"
	"skua/word"
)

// cell is where a variable's value is kept, or an element's; whether that is there is asked at once.
func (r *runner) cell(x *api.Expr) *uint64 {
	if !x.Global {
		return &r.call.vars[x.Var]
	}
	at := r.first[x.Var]
	if x.Op == "index" {
		at += r.index(x)
	}
	return &r.globals[at]
}

// index is which element of its array an expression names.
func (r *runner) index(x *api.Expr) int {
	k := &x.Kids[0]
	// Numbers of u64 from 2^63 on are below 0 here: no array has such elements either way.
	at := word.Int(k.Type, r.value(k))
	need(0 <= at && at < int64(r.prog.Globals[x.Var].Size), api.EndIndex, x.Line, x.Col)
	return int(at)
}

func (r *runner) values(l []api.Expr) []uint64 {
	var out []uint64
	for i := range l {
		out = append(out, r.value(&l[i]))
	}
	return out
}

// value is what an expression is now.
func (r *runner) value(x *api.Expr) uint64 {
	switch x.Op {
	case "num":
		return x.Num
	case "var", "index":
		return *r.cell(x)
	case "cast":
		return word.Cast(x.Kids[0].Type, x.Type, r.value(&x.Kids[0]))
	case "u!", "u~", "u-":
		v, _ := word.Turn(x.Type, x.Op[1:], r.value(&x.Kids[0]))
		return v
	case "&&", "||":
		// The left one tells, if it is what the operator makes of it and of anything.
		if left := r.value(&x.Kids[0]); (left != 0) == (x.Op == "||") {
			return left
		}
		return r.value(&x.Kids[1])
	}
	return r.joined(x)
}

// joined is the value of an operator whose two operands are both asked.
func (r *runner) joined(x *api.Expr) uint64 {
	of := x.Kids[0].Type
	a := r.value(&x.Kids[0])
	b := r.value(&x.Kids[1])
	switch x.Op {
	case "==", "!=", "<", "<=", ">", ">=":
		is, _ := word.Test(of, x.Op, a, b)
		return truth(is)
	}
	v, e := word.Do(of, x.Op, a, b)
	need(e != api.ErrWordZero, api.EndZero, x.Line, x.Col)
	return v
}

func truth(is bool) uint64 {
	if is {
		return 1
	}
	return 0
}
