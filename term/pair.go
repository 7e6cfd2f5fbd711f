package term

import (
	"math"
	"slices"

	"skua/api"
	"skua/word"
)

// simplerPair is of an operator of two terms.
func (p *Pool) simplerPair(op string, a, b int) (int, bool) {
	t := p.Type(a)
	if a == b {
		return p.alike(op, t, a)
	}
	if p.turned(a, b) || p.turned(b, a) {
		return p.unlike(op)
	}
	if v, ok := p.Const(b); ok {
		return p.beside(op, t, a, v)
	}
	if v, ok := p.Const(a); ok {
		return p.behind(op, t, v, b)
	}
	return 0, false
}

// behind is what an operator makes of a number and a term.
func (p *Pool) behind(op string, t api.Type, v uint64, b int) (int, bool) {
	if v == 0 && among(op, "/", "%", "<<", ">>") {
		return p.num(t, 0), true
	}
	if mirror, ok := mirrored(op); ok {
		return p.beside(mirror, t, b, v)
	}
	return 0, false
}

func among(op string, l ...string) bool { return slices.Contains(l, op) }

// mirrored is the operator that makes the same of two terms the other way round; false: there is none.
func mirrored(op string) (string, bool) {
	switch op {
	case "<":
		return ">", true
	case "<=":
		return ">=", true
	case ">":
		return "<", true
	case ">=":
		return "<=", true
	}
	return op, !among(op, "-", "/", "%", "<<", ">>")
}

// turned is whether one term is the other one, turned.
func (p *Pool) turned(a, b int) bool {
	x := p.terms[a]
	return x.op == "u!" && x.parts[0] == b
}

// alike is what an operator makes of a term and itself.
func (p *Pool) alike(op string, t api.Type, a int) (int, bool) {
	switch {
	case among(op, "&", "|", "&&", "||"):
		return a, true
	case among(op, "-", "^", "%"):
		return p.num(t, 0), true
	case among(op, "==", "<=", ">="):
		return p.flag(true), true
	case among(op, "!=", "<", ">"):
		return p.flag(false), true
	}
	return 0, false
}

// unlike is what an operator makes of a term of bool and the other one of both: that settles all operators of two of bool.
func (p *Pool) unlike(op string) (int, bool) {
	return p.flag(among(op, "|", "||", "^", "!=")), true
}

// beside is what an operator makes of a term and a number.
func (p *Pool) beside(op string, t api.Type, a int, v uint64) (int, bool) {
	ones := word.Norm(t, math.MaxUint64)
	switch {
	case v == 0 && among(op, "+", "-", "|", "||", "^", "<<", ">>"), v == 1 && among(op, "*", "/"), v == ones && among(op, "&", "&&"):
		return a, true
	case v == 0 && among(op, "*", "/", "%", "&", "&&"), v == 1 && op == "%":
		return p.num(t, 0), true
	case v >= uint64(t.Width) && (op == "<<" || op == ">>" && !t.Signed):
		return p.num(t, 0), true
	case v == ones && among(op, "|", "||"):
		return p.num(t, ones), true
	case t == truth: // what is left is ==, != and ^
		return p.unless(a, (op == "==") == (v == 0)), true
	}
	return p.atEnd(op, t, v)
}

// atEnd is of a test whether a term is beyond a type's least or greatest number.
func (p *Pool) atEnd(op string, t api.Type, v uint64) (int, bool) {
	least, greatest := uint64(0), word.Norm(t, math.MaxUint64)
	if t.Signed {
		least = 1 << (t.Width - 1)
		greatest = least - 1
	}
	switch {
	case v == least && op == "<", v == greatest && op == ">":
		return p.flag(false), true
	case v == least && op == ">=", v == greatest && op == "<=":
		return p.flag(true), true
	}
	return 0, false
}
