package blast

import (
	"cmp"
	"math/bits"
	"slices"
	"strconv"
)

// say puts a clause behind the others.
func (b *Blaster) say(c ...int) { b.clauses = append(b.clauses, c) }

// fresh is so many variables that weren't used yet.
func (b *Blaster) fresh(many int) []int {
	l := make([]int, many)
	for i := range l {
		b.vars++
		l[i] = b.vars
	}
	return l
}

// gate is a literal that is true just where what a kind of gate makes of others is; tell says that by clauses, if it wasn't said yet.
func (b *Blaster) gate(kind byte, l []int, tell func(out int)) int {
	key := []byte{kind}
	for _, n := range l {
		key = strconv.AppendInt(append(key, ' '), int64(n), 10)
	}
	if out, ok := b.gates[string(key)]; ok {
		return out
	}
	out := b.fresh(1)[0]
	b.gates[string(key)] = out
	tell(out)
	return out
}

// variable is a literal's variable.
func variable(n int) int { return max(n, -n) }

// byVariables is literals in an order in which those of one variable stand beside one another.
func byVariables(l []int) []int {
	l = slices.Clone(l)
	slices.SortFunc(l, func(m, n int) int { return cmp.Or(cmp.Compare(variable(m), variable(n)), cmp.Compare(m, n)) })
	return l
}

// all is true where all literals are.
func (b *Blaster) all(l ...int) int {
	l = slices.Compact(byVariables(l))
	if len(l) > 0 && l[0] == yes {
		l = l[1:]
	}
	for i, n := range l {
		if n == -yes || i > 0 && n == -l[i-1] {
			return -yes
		}
	}
	switch len(l) {
	case 0:
		return yes
	case 1:
		return l[0]
	}
	return b.gate('&', l, func(out int) {
		for _, n := range l {
			b.say(n, -out)
		}
		b.say(append(turned(l), out)...)
	})
}

// any is true where one of the literals is.
func (b *Blaster) any(l ...int) int { return -b.all(turned(l)...) }

// odd is true where an odd number of the literals are. (It has a clause for every other way in which they may be: they should be few.)
func (b *Blaster) odd(l ...int) int {
	var vars []int // of which it is true where an odd number are, or else false there
	sign := 1
	for _, n := range byVariables(l) {
		v, last := variable(n), len(vars)-1
		if n < 0 {
			sign = -sign
		}
		switch {
		case v == yes:
			sign = -sign
		case last >= 0 && vars[last] == v:
			vars = vars[:last]
		default:
			vars = append(vars, v)
		}
	}
	switch len(vars) {
	case 0:
		return sign * -yes
	case 1:
		return sign * vars[0]
	}
	return sign * b.gate('^', vars, func(out int) { b.sayEven(append(vars, out)) })
}

// sayEven says that an even number of variables are true.
func (b *Blaster) sayEven(vars []int) {
	for way := range uint(1) << len(vars) {
		if bits.OnesCount(way)%2 == 0 {
			continue
		}
		c := slices.Clone(vars) // it isn't this way
		for i, v := range vars {
			if way>>i&1 != 0 {
				c[i] = -v
			}
		}
		b.say(c...)
	}
}

// most is true where two of three literals are.
func (b *Blaster) most(x, y, z int) int {
	l := byVariables([]int{x, y, z})
	for i := range 2 {
		switch l[i+1] {
		case l[i]:
			return l[i]
		case -l[i]:
			return l[2-2*i]
		}
	}
	switch {
	case l[0] == yes:
		return b.any(l[1:]...)
	case l[0] == -yes:
		return b.all(l[1:]...)
	case l[0] < 0: // where all are turned, so is it
		return -b.most(-x, -y, -z)
	}
	return b.gate('m', l, func(out int) {
		for i, n := range l {
			m := l[(i+1)%3]
			b.say(-n, -m, out)
			b.say(n, m, -out)
		}
	})
}

// pick is one literal, where asked is true, and another one elsewhere.
func (b *Blaster) pick(asked, then, other int) int {
	if asked < 0 {
		asked, then, other = -asked, other, then
	}
	then, other = given(then, asked, yes), given(other, asked, -yes)
	switch {
	case asked == yes || then == other:
		return then
	case then == yes:
		return b.any(asked, other)
	case then == -yes:
		return b.all(-asked, other)
	case other == yes:
		return b.any(-asked, then)
	case other == -yes:
		return b.all(asked, then)
	case then < 0: // where both are turned, so is it
		return -b.pick(asked, -then, -other)
	}
	return b.gate('?', []int{asked, then, other}, func(out int) {
		b.say(-asked, -then, out)
		b.say(-asked, then, -out)
		b.say(asked, -other, out)
		b.say(asked, other, -out)
		// Whatever is asked: these follow, but not one by one.
		b.say(-then, -other, out)
		b.say(then, other, -out)
	})
}

// given is what a literal is where another one is as told.
func given(n, m, is int) int {
	switch n {
	case m:
		return is
	case -m:
		return -is
	}
	return n
}
