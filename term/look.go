package term

import (
	"slices"

	"skua/api"
	"skua/word"
)

// under is all terms that some are made of, themselves as well, each once, and behind its parts. (Those that aren't there are left out.) It doesn't call itself, as terms may stand deep in one another.
func (p *Pool) under(l ...int) []int {
	var all []int
	seen := map[int]struct{}{}
	open := slices.DeleteFunc(slices.Clone(l), func(f int) bool { return !p.has(f) })
	for len(open) > 0 {
		f, many := open[len(open)-1], len(open)
		if _, ok := seen[f]; ok {
			open = open[:many-1]
			continue
		}
		for _, part := range p.terms[f].parts {
			if _, ok := seen[part]; !ok {
				open = append(open, part)
			}
		}
		if len(open) == many {
			seen[f] = struct{}{}
			all = append(all, f)
		}
	}
	return all
}

// told is what the variables among some terms are, by the terms' numbers; false: not all are told with their types.
func (p *Pool) told(l []int, is []api.Value) (map[int]uint64, bool) {
	values, asked := map[int]uint64{}, map[int]struct{}{}
	for _, f := range l {
		if p.terms[f].op == "var" {
			asked[f] = struct{}{}
		}
	}
	for _, v := range is {
		f, there := p.vars[v.Var]
		if _, ok := asked[f]; !there || !ok {
			continue
		}
		if v.Type != p.terms[f].t {
			return nil, false
		}
		values[f] = word.Norm(v.Type, v.Num)
		delete(asked, f) // what is told of it once more counts for nothing
	}
	return values, len(asked) == 0
}

// reckon is what a term is that is no variable, where its parts are as told.
func (p *Pool) reckon(x term, is func(part int) uint64) uint64 {
	switch len(x.parts) {
	case 1:
		return p.reckonOne(x, is(x.parts[0]))
	case 2:
		return reckonPair(p.Type(x.parts[0]), x.op, is(x.parts[0]), is(x.parts[1]))
	case 3:
		if is(x.parts[0]) == 1 {
			return is(x.parts[1])
		}
		return is(x.parts[2])
	}
	return x.num
}

func (p *Pool) reckonOne(x term, a uint64) uint64 {
	if x.op == "cast" {
		return word.Cast(p.Type(x.parts[0]), x.t, a)
	}
	v, _ := word.Turn(x.t, x.op[1:], a)
	return v
}

// reckonPair is what an operator makes of two values of one type.
func reckonPair(t api.Type, op string, a, b uint64) uint64 {
	switch op {
	case "&&":
		return a & b
	case "||":
		return a | b
	}
	if v, e := word.Do(t, op, a, b); e != api.ErrWordOp {
		return v // 0 of a division by 0, too
	}
	if is, _ := word.Test(t, op, a, b); is {
		return 1
	}
	return 0
}

// swaps is what terms that are variables become; false: they may not.
func (p *Pool) swaps(vars, by []int) (map[int]int, bool) {
	if len(vars) != len(by) {
		return nil, false
	}
	now, taken := map[int]int{}, map[int]struct{}{}
	for i, v := range vars {
		if _, twice := taken[v]; twice || !p.fits(v, p.Type(by[i])) {
			return nil, false
		}
		taken[v] = struct{}{}
		if f, ok := p.vars[v]; ok {
			now[f] = by[i]
		}
	}
	return now, true
}

// rebuilder notes what a term becomes, whose parts it was told ahead of it.
func (p *Pool) rebuilder(now map[int]int) func(f int) {
	return func(f int) {
		x := p.terms[f]
		if _, ok := now[f]; ok {
			return
		}
		l := make([]int, len(x.parts))
		for i, part := range x.parts {
			l[i] = now[part]
		}
		if now[f] = f; !slices.Equal(l, x.parts) {
			now[f] = p.of(x.t, x.op, l...)
		}
	}
}
