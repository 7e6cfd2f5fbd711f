package term

import (
	"math/rand/v2"
	"slices"
	"testing"

	"skua/api"
)

// Rules: what is handed in is neither changed nor kept, the spare room included; what is handed out is new.
func TestSharesNothing(t *testing.T) {
	p := New()
	x, y := must(t)(p.Var(u8, 0)), must(t)(p.Var(u8, 1))
	b, c := must(t)(p.Do("<", x, y)), must(t)(p.Do("==", x, y))
	pair, both := []int{x, y, 91, 92}[:2], []int{b, c, 93, 94}[:2]
	vars, by := []int{1, 0, 95}[:2], []int{x, y, 96}[:2]
	is := []api.Value{{Var: 1, Type: u8, Num: 258}, {Var: 0, Type: u8, Num: 3}, {Var: 97}}[:2]
	sum, all := must(t)(p.Do("+", pair...)), must(t)(p.All(both...))
	put := must(t)(p.Put(sum, vars, by))
	if v, e := p.Eval(sum, is); v != 5 || e != api.OK {
		t.Error(v, e)
	}
	p.Vars(pair...)
	if !slices.Equal(pair[:4], []int{x, y, 91, 92}) || !slices.Equal(both[:4], []int{b, c, 93, 94}) || !slices.Equal(vars[:3], []int{1, 0, 95}) || !slices.Equal(by[:3], []int{x, y, 96}) || !slices.Equal(is[:3], []api.Value{{Var: 1, Type: u8, Num: 258}, {Var: 0, Type: u8, Num: 3}, {Var: 97}}) {
		t.Error(pair[:4], both[:4], vars[:3], by[:3], is[:3])
	}
	// Other lists at the same place: nothing of the first ones was kept.
	copy(pair, []int{y, y})
	copy(both, []int{c, c})
	copy(by, []int{sum, sum})
	for range 2 {
		if p.Show(sum) != "(+ v0:u8 v1:u8)" || p.Show(all) != "(&& (< v0:u8 v1:u8) (== v0:u8 v1:u8))" || p.Show(put) != "(+ v1:u8 v0:u8)" {
			t.Error(p.Show(sum), p.Show(all), p.Show(put))
		}
		_, parts := p.Parts(sum)
		told := p.Vars(sum)
		if !slices.Equal(parts, []int{x, y}) || !slices.Equal(told, []api.Value{{Var: 0, Type: u8}, {Var: 1, Type: u8}}) {
			t.Error(parts, told)
		}
		parts[0], parts[1], told[0], told[1] = 98, 99, api.Value{}, api.Value{}
	}
}

// Rules: an operator's text is none of what is handed in later.
func TestOperatorIsKeptByItself(t *testing.T) {
	p := New()
	x := must(t)(p.Var(u8, 0))
	text := "x+y"
	f := must(t)(p.Do(text[1:2], x, must(t)(p.Num(u8, 1))))
	if op, _ := p.Parts(f); op != "+" || p.Show(f) != "(+ v0:u8 1:u8)" {
		t.Error(op, p.Show(f))
	}
}

// Rules: pools know nothing of each other, and the same is answered each time; a term stays what it is, whatever is made later.
func TestSame(t *testing.T) {
	var l []*grown
	for range 4 {
		l = append(l, newGrown(t, 7))
	}
	known := map[int]string{}
	for range 200 {
		var made []int
		for _, g := range l {
			f, x := g.step()
			g.put(f, x)
			if g.r.IntN(4) == 0 {
				vars, by, _ := g.swaps()
				f = must(t)(g.p.Put(f, vars, by))
			}
			made = append(made, f)
		}
		for i, g := range l {
			if made[i] != made[0] || g.p.Len() != l[0].p.Len() || g.p.Show(made[i]) != l[0].p.Show(made[0]) {
				t.Fatal(made, g.p.Len(), l[0].p.Len())
			}
		}
		if text, ok := known[made[0]]; ok && text != l[0].p.Show(made[0]) {
			t.Fatal(text, l[0].p.Show(made[0]))
		}
		known[made[0]] = l[0].p.Show(made[0])
	}
	for f, text := range known {
		if l[0].p.Show(f) != text {
			t.Fatal(text, l[0].p.Show(f))
		}
	}
}

// P1: all calls with all sorts of numbers, texts and lists by chance end, and answer nothing beside an error.
func TestAnything(t *testing.T) {
	r := rand.New(rand.NewPCG(10, 99))
	p := New()
	ops := slices.Concat(turnOps, []string{"u!", "ite"}, doOps, testOps, []string{"&&", "||"}, noOps)
	anyType := func() api.Type {
		if r.IntN(5) == 0 {
			return noTypes[r.IntN(len(noTypes))]
		}
		return allTypes[r.IntN(3)]
	}
	anyTerm := func() int {
		if r.IntN(12) == 0 {
			return noTerms(p)[r.IntN(len(noTerms(p)))]
		}
		return r.IntN(p.Len() + 1)
	}
	anyTerms := func() []int {
		var l []int
		for range r.IntN(4) {
			l = append(l, anyTerm())
		}
		return l
	}
	errors := map[api.Errno]int{}
	for range 20000 {
		var f int
		var e api.Errno
		before := p.Len()
		switch r.IntN(6) {
		case 0:
			f, e = p.Num(anyType(), r.Uint64()>>r.IntN(64))
		case 1:
			f, e = p.Var(anyType(), r.IntN(9)-1)
		case 2:
			f, e = p.Do(ops[r.IntN(len(ops))], anyTerms()...)
		case 3:
			f, e = p.Cast(anyType(), anyTerm())
		case 4:
			f, e = p.All(anyTerms()...)
		case 5:
			f, e = p.Put(anyTerm(), []int{r.IntN(9) - 1, r.IntN(9) - 1}, anyTerms())
		}
		if e != api.OK && (f != 0 || p.Len() != before) || e == api.OK && (f < 0 || f >= p.Len()) {
			t.Fatal(f, e, before, p.Len())
		}
		errors[e]++
	}
	if len(errors) != 4 || errors[0] < 4000 || errors[100] < 1000 || errors[101] < 1000 || errors[102] < 1000 {
		t.Error(errors)
	}
}
