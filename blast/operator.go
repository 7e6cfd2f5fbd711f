package blast

import (
	"slices"

	"skua/api"
)

// maker makes an operator's bits of those of its parts, the last one of which is of type t.
type maker func(t api.Type, l [][]int) []int

// knows is whether a term's bits are known.
func (b *Blaster) knows(f int) bool {
	_, ok := b.bits[f]
	return ok
}

// missing is those parts of a term whose bits aren't known.
func (b *Blaster) missing(f int) []int {
	_, parts := b.pool.Parts(f)
	return slices.DeleteFunc(parts, b.knows)
}

// of is a term's bits, those of its parts being known.
func (b *Blaster) of(f int) []int {
	t := b.pool.Type(f)
	op, parts := b.pool.Parts(f)
	switch op {
	case "num":
		v, _ := b.pool.Const(f)
		return number(t, v)
	case "var":
		return b.fresh(t.Width)
	case "cast":
		return b.cast(b.pool.Type(parts[0]), t, b.bits[parts[0]])
	}
	var l [][]int
	for _, g := range parts {
		t = b.pool.Type(g)
		l = append(l, b.bits[g])
	}
	return b.makers[op](t, l)
}

// number is the bits of a value of a type.
func number(t api.Type, v uint64) []int {
	l := repeated(-yes, t.Width)
	for i := range l {
		if v>>i&1 != 0 {
			l[i] = yes
		}
	}
	return l
}

// sign is whether a number of a type is below 0.
func sign(t api.Type, x []int) int {
	if t.Signed {
		return x[len(x)-1]
	}
	return -yes
}

// cast is a number of one type as one of another.
func (b *Blaster) cast(from, to api.Type, x []int) []int {
	if to.Width == 1 {
		return []int{b.any(x...)}
	}
	return slices.Concat(x, repeated(sign(from, x), to.Width))[:to.Width]
}

// allMakers is the makers of all operators.
func (b *Blaster) allMakers() map[string]maker {
	turn := func(_ api.Type, l [][]int) []int { return turned(l[0]) }
	bitwise := func(gate func(l ...int) int) maker {
		return func(_ api.Type, l [][]int) []int { return each(l[0], l[1], gate) }
	}
	pair := func(do func(x, y []int) []int) maker {
		return func(_ api.Type, l [][]int) []int { return do(l[0], l[1]) }
	}
	// Whether two numbers, of which one goes ahead, are as is says, or, where so is -1, whether they aren't.
	test := func(is func(t api.Type, x, y []int) int, ahead, so int) maker {
		return func(t api.Type, l [][]int) []int { return []int{so * is(t, l[ahead], l[1-ahead])} }
	}
	return map[string]maker{
		"u!": turn, "u~": turn, "u-": func(_ api.Type, l [][]int) []int { return b.opposite(yes, l[0]) },
		"&": bitwise(b.all), "|": bitwise(b.any), "^": bitwise(b.odd), "&&": bitwise(b.all), "||": bitwise(b.any),
		"+": pair(func(x, y []int) []int { return b.sum(x, y, -yes) }), "-": pair(b.difference), "*": pair(b.product),
		"/": b.quotient, "%": b.rest,
		"<<": pair(func(x, y []int) []int { return b.moved(x, y, 1, -yes) }),
		">>": func(t api.Type, l [][]int) []int { return b.moved(l[0], l[1], -1, sign(t, l[0])) },
		"==": test(b.alike, 0, 1), "!=": test(b.alike, 0, -1),
		">=": test(b.reaches, 0, 1), "<": test(b.reaches, 0, -1), "<=": test(b.reaches, 1, 1), ">": test(b.reaches, 1, -1),
		"ite": func(_ api.Type, l [][]int) []int { return b.picked(l[0][0], l[1], l[2]) },
	}
}

// size is how far a number of a type is from 0, as a number without a sign.
func (b *Blaster) size(t api.Type, x []int) []int { return b.opposite(sign(t, x), x) }

func (b *Blaster) quotient(t api.Type, l [][]int) []int {
	q, _ := b.divided(b.size(t, l[0]), b.size(t, l[1]))
	return b.unlessZero(b.opposite(b.odd(sign(t, l[0]), sign(t, l[1])), q), l[1])
}

func (b *Blaster) rest(t api.Type, l [][]int) []int {
	x, y := b.size(t, l[0]), b.size(t, l[1])
	_, r := b.divided(x, y)
	r = b.unlessZero(r, y)
	// It is less than the divisor, if that isn't 0. This follows, but it would take a search very long to find it out.
	if no := b.covers(r, y); no != -yes {
		b.say(-b.any(y...), -no)
	}
	return b.opposite(sign(t, l[0]), r)
}

// alike is whether two numbers have the same bits.
func (b *Blaster) alike(_ api.Type, x, y []int) int { return -b.any(each(x, y, b.odd)...) }

// reaches is whether one number of a type is no less than another one.
func (b *Blaster) reaches(t api.Type, x, y []int) int { return b.covers(ranked(t, x), ranked(t, y)) }

// ranked is a number of a type as one without a sign, in the same order: those below 0 come first.
func ranked(t api.Type, x []int) []int {
	x = slices.Clone(x)
	if t.Signed {
		x[len(x)-1] = -x[len(x)-1]
	}
	return x
}
