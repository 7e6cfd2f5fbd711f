package blast

import (
	"cmp"
	"math/bits"
	"slices"
)

// repeated is a literal so many times.
func repeated(n, many int) []int { return slices.Repeat([]int{n}, many) }

// turned is literals each of which is the other one of its variable.
func turned(l []int) []int {
	out := make([]int, len(l))
	for i, n := range l {
		out[i] = -n
	}
	return out
}

// each is what a gate makes of two numbers, bit by bit.
func each(x, y []int, gate func(l ...int) int) []int {
	out := make([]int, len(x))
	for i := range x {
		out[i] = gate(x[i], y[i])
	}
	return out
}

// picked is one number, where asked is true, and another one elsewhere.
func (b *Blaster) picked(asked int, x, y []int) []int {
	return each(x, y, func(l ...int) int { return b.pick(asked, l[0], l[1]) })
}

// unlessZero is a number, where another one isn't 0, and 0 elsewhere.
func (b *Blaster) unlessZero(x, y []int) []int {
	return b.picked(b.any(y...), x, repeated(-yes, len(x)))
}

// sum is two numbers together, and 1 more, where that literal is true.
func (b *Blaster) sum(x, y []int, more int) []int {
	out := make([]int, len(x))
	for i := range x {
		out[i] = b.odd(x[i], y[i], more)
		if i < len(x)-1 {
			more = b.most(x[i], y[i], more)
		}
	}
	return out
}

// difference is one number less another one.
func (b *Blaster) difference(x, y []int) []int { return b.sum(x, turned(y), yes) }

// covers is whether one number is no less than another one, both without a sign: whether their difference carries a 1 on.
func (b *Blaster) covers(x, y []int) int {
	more := yes
	for i := range x {
		more = b.most(x[i], -y[i], more)
	}
	return more
}

// opposite is 0 less a number, where asked is true, and the number elsewhere.
func (b *Blaster) opposite(asked int, x []int) []int {
	return b.sum(each(x, repeated(asked, len(x)), b.odd), repeated(-yes, len(x)), asked)
}

// product is one number times another one.
func (b *Blaster) product(x, y []int) []int {
	// The same of both either way round: it would take a search very long to find that out. The one with less to it goes ahead, for fewer rows.
	if cmp.Or(cmp.Compare(zeros(x), zeros(y)), slices.Compare(x, y)) < 0 {
		x, y = y, x
	}
	total := repeated(-yes, len(x))
	for i, n := range x {
		row := append(repeated(-yes, i), y[:len(y)-i]...)
		total = b.sum(total, each(row, repeated(n, len(x)), b.all), -yes)
	}
	return total
}

// zeros is how many of a number's bits are 0 whatever variables are.
func zeros(x []int) int {
	many := 0
	for _, n := range x {
		if n == -yes {
			many++
		}
	}
	return many
}

// divided is the quotient of two numbers without a sign, and the rest; of a division by 0 they are anything.
func (b *Blaster) divided(x, y []int) (quotient, rest []int) {
	quotient = make([]int, len(x))
	above := b.fromOn(y)
	for i := len(x) - 1; i >= 0; i-- {
		rest = slices.Insert(rest, 0, x[i])
		many := len(rest)
		// The rest has no bits above these: where y has some, it doesn't go into it.
		quotient[i] = b.all(-above[many], b.covers(rest, y[:many]))
		rest = b.picked(quotient[i], b.difference(rest, y[:many]), rest)
	}
	return quotient, rest
}

// fromOn is, place by place, whether a number has a bit from there on; behind all places it has none.
func (b *Blaster) fromOn(x []int) []int {
	l := append(slices.Clone(x), -yes)
	for i := len(x) - 1; i >= 0; i-- {
		l[i] = b.any(x[i], l[i+1])
	}
	return l
}

// moved is a number whose bits stand so many places higher as another one says, or lower, if way is -1; fill stands where none comes to.
func (b *Blaster) moved(x, by []int, way, fill int) []int {
	low := bits.Len(uint(len(x))) - 1 // widths are powers of 2: so many bits tell any place
	for k, asked := range by[:low] {
		step := repeated(fill, len(x))
		for i, n := range x {
			if to := i + way<<k; to >= 0 && to < len(x) {
				step[to] = n
			}
		}
		x = b.picked(asked, step, x)
	}
	return b.picked(b.any(by[low:]...), repeated(fill, len(x)), x)
}
