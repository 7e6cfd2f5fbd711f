package blast

import (
	"math/rand/v2"
	"slices"
	"testing"

	"skua/api"
)

// grown is terms that are made by chance from one another.
type grown struct {
	*asked
	r     *rand.Rand
	known map[api.Type][]int
}

func newGrown(t *testing.T, seed uint64) *grown {
	g := &grown{asked: newAsked(t), r: rand.New(rand.NewPCG(11, seed)), known: map[api.Type][]int{}}
	for _, x := range allTypes {
		g.known[x] = []int{g.variable(x), g.num(x, value(g.r, x))}
	}
	g.put(g.variable(allTypes[g.r.IntN(3)]))
	return g
}

func (g *grown) put(f int) int {
	x := g.p.Type(f)
	g.known[x] = append(g.known[x], f)
	return f
}

func (g *grown) pick(x api.Type) int { return g.known[x][g.r.IntN(len(g.known[x]))] }

// grow makes one more term, of few bits rather than of many.
func (g *grown) grow() int {
	x := allTypes[min(g.r.IntN(len(allTypes)), g.r.IntN(len(allTypes)))]
	switch g.r.IntN(6) {
	case 0:
		return g.put(g.do(oneOps(x)[g.r.IntN(len(oneOps(x)))], g.pick(x)))
	case 1:
		return g.put(g.do("ite", g.pick(boolType), g.pick(x), g.pick(x)))
	case 2:
		return g.put(g.made(g.p.Cast(x, g.pick(allTypes[g.r.IntN(len(allTypes))]))))
	}
	return g.put(g.do(pairOps(x)[g.r.IntN(len(pairOps(x)))], g.pick(x), g.pick(x)))
}

// P11.1: terms made by chance, some of which are asked for.
func TestChance(t *testing.T) {
	for seed := range uint64(120) {
		g := newGrown(t, seed)
		for range 40 {
			if f := g.grow(); g.r.IntN(2) == 0 {
				g.ask(f)
			}
		}
		g.holds(g.chances(g.r, 12)...)
	}
}

// P11.3: whatever is asked for later: what was asked for ahead has the same bits, and is what it was.
func TestLater(t *testing.T) {
	for seed := range uint64(30) {
		g := newGrown(t, 1000+seed)
		var ahead [][]int
		for range 12 {
			f := g.grow()
			g.ask(f)
			l := g.b.Clauses()
			if len(l) < len(ahead) || !sameClauses(l[:len(ahead)], ahead) {
				t.Fatal(g.p.Show(f), len(l), len(ahead))
			}
			ahead = copyOf(l)
			for _, f := range g.terms {
				g.ask(f) // it has the bits that it had
			}
			g.holds(g.chances(g.r, 3)...)
		}
	}
}

// Rules: blasters of one pool know nothing of each other, and the same is answered each time.
func TestSame(t *testing.T) {
	g := newGrown(t, 5)
	other, late := New(g.p), New(g.p)
	var l []int
	for range 60 {
		f := g.grow()
		l = append(l, f)
		bits, e := other.Bits(f)
		if e != api.OK || !slices.Equal(bits, g.ask(f)) {
			t.Fatal(g.p.Show(f), bits, g.bits[f])
		}
	}
	for _, f := range l { // with all terms there from the beginning on
		if bits, e := late.Bits(f); e != api.OK || !slices.Equal(bits, g.bits[f]) {
			t.Fatal(g.p.Show(f), bits, g.bits[f])
		}
	}
	for _, b := range []*Blaster{other, late} {
		if b.Vars() != g.b.Vars() || !sameClauses(b.Clauses(), g.b.Clauses()) || !sameClauses(b.Fresh(), g.b.Clauses()) {
			t.Error(b.Vars(), g.b.Vars())
		}
	}
}

// P1: all calls with any numbers end, and answer nothing beside an error.
func TestAnything(t *testing.T) {
	g := newGrown(t, 6)
	for range 200 {
		g.grow()
	}
	errors := map[api.Errno]int{}
	for range 3000 {
		f := int(g.r.Uint64() >> g.r.IntN(64))
		if g.r.IntN(2) == 0 {
			f = g.r.IntN(2*g.p.Len()) - g.p.Len()/2
		}
		there := f >= 0 && f < g.p.Len()
		bits, e := g.b.Bits(f)
		if there != (e == api.OK) || !there && (bits != nil || e != api.ErrTermNode) || there && len(bits) != g.p.Type(f).Width {
			t.Fatal(f, bits, e)
		}
		errors[e]++
		is := []int{f, -f, 1, g.r.IntN(9) - 4, int(g.r.Uint64())}
		Value(bits, is)
		Value(is, bits)
	}
	if len(errors) != 2 || errors[api.OK] < 500 || errors[api.ErrTermNode] < 1000 {
		t.Error(errors)
	}
}
