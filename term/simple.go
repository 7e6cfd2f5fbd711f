package term

import (
	"slices"

	"skua/api"
)

// simpler is another term that is what one is, wherever variables are whatever; false: none is known that is simpler. It looks no deeper than at the parts of parts, so that a term costs no more to make the greater its parts are.
func (p *Pool) simpler(x term) (int, bool) {
	if p.fixed(x.parts) {
		return p.num(x.t, p.reckon(x, func(part int) uint64 { return p.terms[part].num })), true
	}
	switch {
	case x.op == "cast":
		return p.simplerCast(x.t, x.parts[0])
	case len(x.parts) == 1:
		return p.simplerTurn(x.op, x.parts[0])
	case len(x.parts) == 2:
		return p.simplerPair(x.op, x.parts[0], x.parts[1])
	}
	return p.simplerChoice(x.t, x.parts[0], x.parts[1], x.parts[2])
}

// fixed is whether all of some terms are numbers.
func (p *Pool) fixed(l []int) bool {
	return !slices.ContainsFunc(l, func(f int) bool { return p.terms[f].op != "num" })
}

// simplerTurn is of what is turned twice.
func (p *Pool) simplerTurn(op string, f int) (int, bool) {
	if x := p.terms[f]; x.op == op {
		return x.parts[0], true
	}
	return 0, false
}

// simplerCast is of a cast to a term's own type, and of one behind another one that loses nothing which it asks.
func (p *Pool) simplerCast(t api.Type, f int) (int, bool) {
	x := p.terms[f]
	if x.t == t {
		return f, true
	}
	if x.op != "cast" {
		return 0, false
	}
	if from := p.Type(x.parts[0]); keeps(from, x.t, t) {
		return p.of(t, "cast", x.parts[0]), true
	}
	return 0, false
}

// keeps is whether a cast, of what was cast from one type by way of another, is as if it hadn't been cast ahead of it.
func keeps(from, by, to api.Type) bool {
	if to != truth && to.Width <= by.Width {
		return true
	}
	// All bits of it must be there still, and stand for the same number, if it is made wider again.
	return from.Width <= by.Width && (to == truth || from.Signed == by.Signed || from.Width < by.Width && !from.Signed)
}

// simplerChoice is of an ite.
func (p *Pool) simplerChoice(t api.Type, asked, yes, no int) (int, bool) {
	if v, ok := p.Const(asked); ok {
		return []int{no, yes}[v], true
	}
	if yes == no {
		return yes, true
	}
	if x := p.terms[asked]; x.op == "u!" {
		return p.of(t, "ite", x.parts[0], no, yes), true
	}
	if t == truth && p.fixed([]int{yes, no}) { // they differ
		return p.unless(asked, p.terms[no].num == 1), true
	}
	return 0, false
}

// unless is a term of bool, or the other one of both, if it is turned.
func (p *Pool) unless(f int, turned bool) int {
	if turned {
		return p.of(truth, "u!", f)
	}
	return f
}
