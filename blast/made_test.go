package blast

import (
	"math/rand/v2"
	"slices"
	"strconv"
	"testing"

	"skua/api"
	"skua/sat"
	"skua/term"
)

var (
	boolType = api.Type{Width: 1}
	u8       = api.Type{Width: 8}
	i8       = api.Type{Width: 8, Signed: true}
	u16      = api.Type{Width: 16}
	i16      = api.Type{Width: 16, Signed: true}
	u32      = api.Type{Width: 32}
	i32      = api.Type{Width: 32, Signed: true}
	u64      = api.Type{Width: 64}
	i64      = api.Type{Width: 64, Signed: true}
	allTypes = []api.Type{boolType, u8, i8, u16, i16, u32, i32, u64, i64}
)

// oneOps is the operators of one term of a type, pairOps of two.
func oneOps(x api.Type) []string {
	if x == boolType {
		return []string{"u!"}
	}
	return []string{"u-", "u~"}
}

func pairOps(x api.Type) []string {
	if x == boolType {
		return []string{"&&", "||", "&", "|", "^", "==", "!="}
	}
	return []string{"+", "-", "*", "/", "%", "&", "|", "^", "<<", ">>", "==", "!=", "<", "<=", ">", ">="}
}

func nameOf(x api.Type) string {
	if x == boolType {
		return "bool"
	}
	if x.Signed {
		return "i" + strconv.Itoa(x.Width)
	}
	return "u" + strconv.Itoa(x.Width)
}

// edges is values of a type around its ends and its middle.
func edges(x api.Type) []uint64 {
	if x == boolType {
		return []uint64{0, 1}
	}
	half := uint64(1) << (x.Width - 1)
	return []uint64{0, 1, 2, 3, 7, uint64(x.Width) - 1, uint64(x.Width), half - 1, half, half + 1, 2*half - 2, 2*half - 1}
}

// way is what variables of a pool are, by their numbers.
type way map[int]uint64

// asked is a blaster, and the terms that it was asked for.
type asked struct {
	t      *testing.T
	p      *term.Pool
	b      *Blaster
	vars   []api.Value // all variables of the pool
	terms  []int       // in the order in which they were asked for
	bits   map[int][]int
	untold bool // the terms' texts would be too long to tell
}

func newAsked(t *testing.T) *asked {
	p := term.New()
	return &asked{t: t, p: p, b: New(p), bits: map[int][]int{}}
}

// made is a term that is told without an error.
func (a *asked) made(f int, e api.Errno) int {
	a.t.Helper()
	if e != api.OK {
		a.t.Fatal(e)
	}
	return f
}

func (a *asked) num(x api.Type, v uint64) int { return a.made(a.p.Num(x, v)) }

func (a *asked) do(op string, l ...int) int { return a.made(a.p.Do(op, l...)) }

// name is a term's text, or else its number.
func (a *asked) name(f int) string {
	if a.untold {
		return strconv.Itoa(f)
	}
	return a.p.Show(f)
}

// variable is a new variable of the pool.
func (a *asked) variable(x api.Type) int {
	v := len(a.vars)
	a.vars = append(a.vars, api.Value{Var: v, Type: x})
	return a.made(a.p.Var(x, v))
}

// ask is the bits of a term: as many as they should be, of variables that there are, and the same each time.
func (a *asked) ask(f int) []int {
	a.t.Helper()
	bits, e := a.b.Bits(f)
	if e != api.OK || len(bits) != a.p.Type(f).Width {
		a.t.Fatal(f, bits, e)
	}
	for _, n := range bits {
		if n == 0 || max(n, -n) > a.b.Vars() {
			a.t.Fatal(f, bits, a.b.Vars())
		}
	}
	if known, ok := a.bits[f]; !ok {
		a.terms = append(a.terms, f)
		a.bits[f] = bits
	} else if !slices.Equal(bits, known) {
		a.t.Fatal(f, bits, known)
	}
	return bits
}

// askAll asks for terms, and for all variables.
func (a *asked) askAll(l ...int) {
	a.t.Helper()
	for _, f := range l {
		a.ask(f)
	}
	for _, v := range a.vars {
		a.ask(a.made(a.p.Var(v.Type, v.Var)))
	}
}

// told is literals that are true where bits are those of a number.
func told(bits []int, v uint64) []int {
	l := slices.Clone(bits)
	for i := range l {
		if v>>i&1 == 0 {
			l[i] = -l[i]
		}
	}
	return l
}

// solver is a solver of all clauses.
func (a *asked) solver() *sat.Solver {
	a.t.Helper()
	s := sat.New()
	for _, c := range a.b.Clauses() {
		for _, n := range c {
			if n == 0 || max(n, -n) > a.b.Vars() {
				a.t.Fatal(c, a.b.Vars())
			}
		}
		if e := s.Add(c...); e != api.OK {
			a.t.Fatal(c, e)
		}
	}
	return s
}

// holds holds all terms that were asked for against what they are, in some ways: the clauses hold where the variables are so, and then just where all other terms are as they should be.
func (a *asked) holds(ways ...way) {
	a.t.Helper()
	a.askAll()
	s := a.solver()
	for i, w := range ways {
		l := slices.Clone(a.vars)
		var is []int
		for j, v := range a.vars {
			l[j].Num = w[v.Var]
			is = append(is, told(a.bits[a.made(a.p.Var(v.Type, v.Var))], w[v.Var])...)
		}
		other := a.b.Vars() + 1 + i // it tells that some term is otherwise
		wrong := []int{-other}
		got, e := s.Solve(0, is...)
		if !got.Sat || e != api.OK {
			a.t.Fatal(w, got.Core, e)
		}
		for _, f := range a.terms {
			want, e := a.p.Eval(f, l)
			if v := Value(a.bits[f], got.Model); v != want || e != api.OK {
				a.t.Fatal(a.name(f), w, v, want, e)
			}
			for _, n := range told(a.bits[f], want) {
				wrong = append(wrong, -n)
			}
		}
		s.Add(wrong...)
		if got, e := s.Solve(0, append(is, other)...); got.Sat || e != api.OK {
			a.t.Fatal(w, "a term may be otherwise", e)
		}
	}
}

// can is whether a term of bool can be true, found out within so many conflicts.
func (a *asked) can(limit, f int) (bool, api.Errno) {
	a.t.Helper()
	is := a.ask(f)
	got, e := a.solver().Solve(limit, is...)
	return got.Sat, e
}

// value is a value of a type, by chance.
func value(r *rand.Rand, x api.Type) uint64 {
	if r.IntN(2) == 0 {
		l := edges(x)
		return l[r.IntN(len(l))]
	}
	return r.Uint64() >> (64 - x.Width) >> r.IntN(x.Width)
}

// chances is some ways by chance.
func (a *asked) chances(r *rand.Rand, many int) []way {
	var l []way
	for range many {
		w := way{}
		for _, v := range a.vars {
			w[v.Var] = value(r, v.Type)
		}
		l = append(l, w)
	}
	return l
}

// copyOf is clauses that stay what they are.
func copyOf(l [][]int) [][]int {
	out := make([][]int, len(l))
	for i, c := range l {
		out[i] = slices.Clone(c)
	}
	return out
}

func sameClauses(l, m [][]int) bool {
	return slices.EqualFunc(l, m, func(c, d []int) bool { return slices.Equal(c, d) })
}
