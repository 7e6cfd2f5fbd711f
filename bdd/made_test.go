package bdd

import (
	"math"
	"math/rand/v2"
	"slices"
	"strings"
	"testing"

	"skua/api"
)

// A truth is what is true where: for each way, in order, 1 or 0. The first half is where the first variable is false.

// must is a node that is told without an error.
func must(t *testing.T) func(n int, e api.Errno) int {
	return func(n int, e api.Errno) int {
		t.Helper()
		if e != api.OK {
			t.Fatal(e)
		}
		return n
	}
}

// made is a store that may be.
func made(t *testing.T, vars, room int) *Store {
	t.Helper()
	s, e := New(vars, room)
	if e != api.OK || s == nil {
		t.Fatal(e)
	}
	return s
}

// first is so many variables' diagrams.
func first(t *testing.T, s *Store, many int) []int {
	t.Helper()
	var l []int
	for v := range many {
		l = append(l, must(t)(s.Var(v)))
	}
	return l
}

// way is a way by its number: the first variable counts most.
func way(vars, n int) []bool {
	l := make([]bool, vars)
	for v := range l {
		l[v] = n>>(vars-1-v)&1 != 0
	}
	return l
}

// number is a way's.
func number(is []bool) int {
	n := 0
	for _, b := range is {
		n *= 2
		if b {
			n++
		}
	}
	return n
}

// truth is what is true where, as a function tells.
func truth(vars int, is func(w []bool) bool) string {
	var b strings.Builder
	for n := range 1 << vars {
		if is(way(vars, n)) {
			b.WriteByte('1')
		} else {
			b.WriteByte('0')
		}
	}
	return b.String()
}

// told is what is true where, as a store tells of a node.
func told(t *testing.T, s *Store, f, vars int) string {
	t.Helper()
	return truth(vars, func(w []bool) bool {
		is, e := s.Eval(f, w)
		if e != api.OK {
			t.Fatal(e)
		}
		return is
	})
}

// parts puts what each node of a diagram is into a set: its truth, of the variables from its own on.
func parts(truth string, met map[string]bool) {
	half := len(truth) / 2
	if half == 0 || met[truth] {
		return
	}
	if truth[:half] != truth[half:] {
		met[truth] = true
		parts(truth[half:], met)
	}
	parts(truth[:half], met)
}

// asks is which variables a truth hangs on.
func asks(truth string, vars int) []int {
	var l []int
	for v := range vars {
		bit := 1 << (vars - 1 - v)
		for n := range len(truth) {
			if truth[n] != truth[n^bit] {
				l = append(l, v)
				break
			}
		}
	}
	return l
}

// somehow is a truth where some variables are somehow.
func somehow(is string, vars int, free []int) string {
	for _, v := range free {
		bit, was := 1<<(vars-1-v), is
		is = truth(vars, func(w []bool) bool {
			n := number(w)
			return was[n] == '1' || was[n^bit] == '1'
		})
	}
	return is
}

// called is a truth with other variables.
func called(is string, vars int, to []int) string {
	on := asks(is, vars)
	return truth(vars, func(w []bool) bool {
		there := make([]bool, vars)
		for _, v := range on {
			there[v] = w[to[v]]
		}
		return is[number(there)] == '1'
	})
}

// isTwice is whether two of some variables get the same name.
func isTwice(on, to []int) bool {
	taken := map[int]bool{}
	for _, v := range on {
		if taken[to[v]] {
			return true
		}
		taken[to[v]] = true
	}
	return false
}

// draws is so many numbers below another one, as it comes.
func draws(r *rand.Rand, many, below int) []int {
	var l []int
	for range many {
		l = append(l, r.IntN(below))
	}
	return l
}

// noNodes is numbers that are no node of a store.
func noNodes(s *Store) []int {
	n := s.Nodes()
	return []int{-1, -2, n, n + 1, math.MaxInt, math.MinInt, math.MinInt + 1, math.MaxInt32, math.MinInt32, 1 << 32, 1<<32 + 1, 1<<32 + n - 1, -1 << 32, 1<<63 - 1<<32}
}

// noVars is numbers that are no variable of a store.
func noVars(vars int) []int {
	return []int{-1, -2, vars, vars + 1, 256, 1000, math.MaxInt, math.MinInt, math.MaxInt32, math.MinInt32, 1 << 32, 1<<32 + 1, -1 << 32}
}

// step is a call made by chance: what it answers, and what it should.
type step struct {
	kind string
	node int
	e    api.Errno
	want string // its truth
	no   bool   // it should be refused
}

// side is a diagram that is known, with what is true where.
type side struct {
	node  int
	truth string
}

// stepped is a call by chance of diagrams that are known.
func stepped(r *rand.Rand, s *Store, vars int, known []side) step {
	f, g, h := known[r.IntN(len(known))], known[r.IntN(len(known))], known[r.IntN(len(known))]
	by := func(is func(f, g, h bool) bool) string {
		return truth(vars, func(w []bool) bool {
			n := number(w)
			return is(f.truth[n] == '1', g.truth[n] == '1', h.truth[n] == '1')
		})
	}
	do := func(kind string, want string, node int, e api.Errno) step {
		return step{kind: kind, node: node, e: e, want: want}
	}
	kind := r.IntN(10)
	if vars == 0 {
		kind %= 6
	}
	switch kind {
	case 0:
		n, e := s.Not(f.node)
		return do("not", by(func(f, _, _ bool) bool { return !f }), n, e)
	case 1:
		n, e := s.And(f.node, g.node)
		return do("and", by(func(f, g, _ bool) bool { return f && g }), n, e)
	case 2:
		n, e := s.Or(f.node, g.node)
		return do("or", by(func(f, g, _ bool) bool { return f || g }), n, e)
	case 3:
		n, e := s.Iff(f.node, g.node)
		return do("iff", by(func(f, g, _ bool) bool { return f == g }), n, e)
	case 4, 5:
		n, e := s.Ite(f.node, g.node, h.node)
		return do("ite", by(func(f, g, h bool) bool { return f && g || !f && h }), n, e)
	case 6:
		v := r.IntN(vars)
		n, e := s.Var(v)
		return do("var", truth(vars, func(w []bool) bool { return w[v] }), n, e)
	case 7, 8:
		free := draws(r, r.IntN(4), vars)
		n, e := s.Exists(f.node, free)
		return do("exists", somehow(f.truth, vars, free), n, e)
	}
	to := r.Perm(vars)
	if r.IntN(3) == 0 {
		to = draws(r, vars, vars)
	}
	n, e := s.Rename(f.node, to)
	if isTwice(asks(f.truth, vars), to) {
		return step{kind: "twice", node: n, e: e, no: true}
	}
	return do("rename", called(f.truth, vars, to), n, e)
}

// turned is a list the other way round.
func turned(l []int) []int {
	l = slices.Clone(l)
	slices.Reverse(l)
	return l
}
