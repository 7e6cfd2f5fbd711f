package term

import (
	"slices"
	"strconv"
	"strings"

	"skua/api"
	"skua/word"
)

// term is a number, a variable, a cast, or an operator of terms.
type term struct {
	op    string // num, var, cast, or the operator
	t     api.Type
	num   uint64 // what a number is, or a variable's number
	parts []int
}

// text puts a term's text behind other bytes, its parts being told as part says.
func (x term) text(b []byte, part func(b []byte, f int) []byte) []byte {
	switch x.op {
	case "num":
		return x.leaf(b)
	case "var":
		return x.leaf(append(b, 'v'))
	case "cast":
		b = append(append(b, '('), word.Name(x.t)...)
	default:
		b = append(append(b, '('), x.op...)
	}
	for _, f := range x.parts {
		b = part(append(b, ' '), f)
	}
	return append(b, ')')
}

func (x term) leaf(b []byte) []byte {
	b = strconv.AppendUint(b, x.num, 10)
	return append(append(b, ':'), word.Name(x.t)...)
}

// has is whether all of some terms are there.
func (p *Pool) has(l ...int) bool {
	for _, f := range l {
		if f < 0 || f >= len(p.terms) {
			return false
		}
	}
	return true
}

// fits is whether a variable is of a type, or isn't there.
func (p *Pool) fits(v int, t api.Type) bool {
	f, ok := p.vars[v]
	return !ok || p.terms[f].t == t
}

// keep is the number of a term, which is made if it isn't there. The text by which it is looked for has its parts' numbers in place of their texts: these would grow with each time that one part stands there again.
func (p *Pool) keep(x term) int {
	text := x.text(nil, func(b []byte, f int) []byte { return strconv.AppendInt(b, int64(f), 10) })
	if f, ok := p.numbers[string(text)]; ok {
		return f
	}
	x.op, x.parts = strings.Clone(x.op), slices.Clone(x.parts)
	f := len(p.terms)
	p.terms = append(p.terms, x)
	p.numbers[string(text)] = f
	return f
}

func (p *Pool) num(t api.Type, v uint64) int {
	return p.keep(term{op: "num", t: t, num: word.Norm(t, v)})
}

// flag is true or false as a number.
func (p *Pool) flag(is bool) int {
	if is {
		return p.num(truth, 1)
	}
	return p.num(truth, 0)
}

// of is a term that is, wherever variables are whatever, what an operator or a cast makes of others.
func (p *Pool) of(t api.Type, op string, l ...int) int {
	x := term{op: op, t: t, parts: l}
	if f, ok := p.simpler(x); ok {
		return f
	}
	return p.keep(x)
}

// typed is the type of what an operator makes of terms; false: it is no operator of so many of such types.
func (p *Pool) typed(op string, l []int) (api.Type, bool) {
	switch len(l) {
	case 1:
		t := p.Type(l[0])
		turn, ok := strings.CutPrefix(op, "u")
		_, e := word.Turn(t, turn, 0)
		return t, ok && e == api.OK
	case 2:
		return paired(op, p.Type(l[0]), p.Type(l[1]))
	case 3:
		t := p.Type(l[1])
		return t, op == "ite" && p.Type(l[0]) == truth && p.Type(l[2]) == t
	}
	return api.Type{}, false
}

// paired is the type of what an operator makes of two types.
func paired(op string, a, b api.Type) (api.Type, bool) {
	if a != b {
		return api.Type{}, false
	}
	if _, e := word.Do(a, op, 0, 1); e == api.OK {
		return a, true
	}
	_, e := word.Test(a, op, 0, 1)
	return truth, e == api.OK || a == truth && (op == "&&" || op == "||")
}
