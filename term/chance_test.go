package term

import (
	"math/rand/v2"
	"slices"
	"testing"

	"skua/api"
)

// grown is a pool in which terms are made by chance, each beside the tree of what was asked for: whatever the pool makes of it, that is what it must be.
type grown struct {
	t     *testing.T
	r     *rand.Rand
	p     *Pool
	types map[int]api.Type // of all variables
	trees map[int]tree
	kinds map[string]int // how often each kind of call was made
}

func newGrown(t *testing.T, seed uint64) *grown {
	g := &grown{t: t, r: rand.New(rand.NewPCG(10, seed)), p: New(), types: map[int]api.Type{}, trees: map[int]tree{}, kinds: map[string]int{}}
	for v := range 8 {
		x := allTypes[g.r.IntN(len(allTypes))]
		g.types[v] = x
		g.put(must(t)(g.p.Var(x, v)), tree{op: "var", t: x, num: uint64(v)})
	}
	for _, x := range allTypes {
		v := edges(x)[g.r.IntN(len(edges(x)))]
		g.put(must(t)(g.p.Num(x, v)), tree{op: "num", t: x, num: v})
	}
	return g
}

// put notes a term with the tree of it, if none is known.
func (g *grown) put(f int, x tree) {
	if g.p.Type(f) != x.t {
		g.t.Fatal(g.p.Show(f), x.show())
	}
	if _, there := g.trees[f]; !there {
		g.trees[f] = x
	}
}

// pick is one of the known terms, of a type, with few parts.
func (g *grown) pick(x api.Type) (int, tree) {
	var l []int
	for f := range g.p.Len() {
		if known, ok := g.trees[f]; ok && known.t == x && len(known.show()) < 400 {
			l = append(l, f)
		}
	}
	f := l[g.r.IntN(len(l))]
	return f, g.trees[f]
}

// ways is some of what variables may be.
func (g *grown) ways(many int) []map[int]uint64 {
	var l []map[int]uint64
	for range many {
		is := map[int]uint64{}
		for v := range len(g.types) {
			x := g.types[v]
			is[v] = edges(x)[g.r.IntN(len(edges(x)))]
			if g.r.IntN(2) == 0 {
				is[v] = g.r.Uint64() >> (64 - x.Width)
			}
		}
		l = append(l, is)
	}
	return l
}

// holds is whether a term is what a tree is, wherever variables are as one of some ways says.
func (g *grown) holds(f int, x tree) {
	g.t.Helper()
	for _, is := range g.ways(4) {
		got, e := g.p.Eval(f, values(g.r, g.types, is))
		if want := x.is(is); got != want || e != api.OK {
			g.t.Fatal(g.p.Show(f), x.show(), is, got, want, e)
		}
	}
}

// step makes one more term by a call of some kind.
func (g *grown) step() (int, tree) {
	x := allTypes[g.r.IntN(len(allTypes))]
	a, one := g.pick(x)
	b, two := g.pick(x)
	switch g.r.IntN(7) {
	case 0:
		op := oneOps(x)[g.r.IntN(len(oneOps(x)))]
		g.kinds[op]++
		return must(g.t)(g.p.Do(op, a)), tree{op: op, t: x, kids: []tree{one}}
	case 1, 2, 3:
		op := pairOps(x)[g.r.IntN(len(pairOps(x)))]
		g.kinds[op]++
		made := tree{op: op, t: x, kids: []tree{one, two}}
		if slices.Contains(testOps, op) {
			made.t = boolType
		}
		return must(g.t)(g.p.Do(op, a, b)), made
	case 4:
		g.kinds["ite"]++
		c, flag := g.pick(boolType)
		return must(g.t)(g.p.Do("ite", c, a, b)), tree{op: "ite", t: x, kids: []tree{flag, one, two}}
	case 5:
		g.kinds["all"]++
		return g.all()
	}
	g.kinds["cast"]++
	to := allTypes[g.r.IntN(len(allTypes))]
	return must(g.t)(g.p.Cast(to, a)), tree{op: "cast", t: to, kids: []tree{one}}
}

func (g *grown) all() (int, tree) {
	l, made := []int{}, tree{op: "num", t: boolType, num: 1}
	for range g.r.IntN(4) {
		f, x := g.pick(boolType)
		l = append(l, f)
		made = tree{op: "&&", t: boolType, kids: []tree{made, x}}
	}
	return must(g.t)(g.p.All(l...)), made
}

// told holds all that is told of a term against its text.
func (g *grown) told(f int) {
	g.t.Helper()
	x := treeOf(g.t, g.p, f)
	g.holds(f, x)
	op, parts := g.p.Parts(f)
	if op != x.op || len(parts) != len(x.kids) || g.p.Type(f) != x.t {
		g.t.Fatal(g.p.Show(f), op, parts)
	}
	for i, part := range parts {
		if g.p.Show(part) != x.kids[i].show() || part == f {
			g.t.Fatal(g.p.Show(f), parts)
		}
	}
	if v, is := g.p.Const(f); is != (x.op == "num") || is && v != x.num || !is && v != 0 {
		g.t.Fatal(g.p.Show(f), v, is)
	}
	found := map[int]api.Type{}
	x.vars(found)
	if got, want := g.p.Vars(f), values(nil, found, nil); !slices.Equal(got, want) {
		g.t.Fatal(g.p.Show(f), got, want)
	}
}

// P10.1, P10.2, P10.3: terms made by chance are what was asked for, what is told of each is as its text says, and two with one text are one.
func TestChance(t *testing.T) {
	kinds, simpler := map[string]int{}, 0
	for seed := range uint64(60) {
		g := newGrown(t, seed)
		for range 120 {
			f, x := g.step()
			g.holds(f, x)
			if g.p.Show(f) != x.show() {
				simpler++
			}
			g.put(f, x)
		}
		texts := map[string]int{}
		for f := range g.p.Len() {
			g.told(f)
			if other, twice := texts[g.p.Show(f)]; twice {
				t.Fatal(f, other, g.p.Show(f))
			}
			texts[g.p.Show(f)] = f
		}
		for op, n := range g.kinds {
			kinds[op] += n
		}
	}
	if len(kinds) != 3+len(doOps)+len(testOps)+2+3 || simpler < 1000 || simpler > 6000 {
		t.Error(kinds, simpler)
	}
	for op, n := range kinds {
		if n < 30 {
			t.Error(op, n)
		}
	}
}

// P10.1: other terms in place of variables, all at once: a term is what it is where each variable is what its term is.
func TestPutChance(t *testing.T) {
	same, changed := 0, 0
	for seed := range uint64(60) {
		g := newGrown(t, 100+seed)
		for range 60 {
			f, x := g.step()
			g.put(f, x)
		}
		for range 60 {
			vars, by, trees := g.swaps()
			f := g.r.IntN(g.p.Len())
			x := treeOf(t, g.p, f)
			put := must(t)(g.p.Put(f, vars, by))
			if g.p.Type(put) != g.p.Type(f) {
				t.Fatal(g.p.Show(put), g.p.Show(f))
			}
			for _, is := range g.ways(3) {
				ahead := map[int]uint64{}
				for v := range g.types {
					ahead[v] = is[v]
				}
				for i, v := range vars {
					ahead[v] = trees[i].is(is)
				}
				got, e := g.p.Eval(put, values(g.r, g.types, is))
				if want := x.is(ahead); got != want || e != api.OK {
					t.Fatal(g.p.Show(f), vars, by, g.p.Show(put), got, want, e)
				}
			}
			if put == f {
				same++
			} else {
				changed++
			}
		}
	}
	if same < 300 || changed < 800 {
		t.Error(same, changed)
	}
}

// swaps is some variables, and terms that may stand in place of them, with trees of these.
func (g *grown) swaps() ([]int, []int, []tree) {
	var by []int
	var trees []tree
	vars := g.r.Perm(len(g.types))[:g.r.IntN(len(g.types)+1)]
	for _, v := range vars {
		f, _ := g.pick(g.types[v])
		by = append(by, f)
		trees = append(trees, treeOf(g.t, g.p, f))
	}
	if g.r.IntN(3) == 0 { // one that the pool doesn't have may become anything
		vars = append(vars, 1000+g.r.IntN(5))
		by = append(by, g.r.IntN(g.p.Len()))
		trees = append(trees, tree{op: "num", t: boolType})
	}
	return vars, by, trees
}
