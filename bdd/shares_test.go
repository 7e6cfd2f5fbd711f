package bdd

import (
	"math/rand/v2"
	"slices"
	"testing"

	"skua/api"
)

// Rules: what is handed in is neither changed nor kept, the spare room included; what is handed out is new.
func TestSharesNothing(t *testing.T) {
	s := made(t, 4, 1000)
	l := first(t, s, 4)
	f := must(t)(s.Ite(l[0], must(t)(s.And(l[1], l[3])), l[2]))
	vars := []int{2, 0, 2, 91, 92}[:3]
	to := []int{3, 2, 1, 0, 93, 94}[:4]
	is := []bool{true, true, false, true, true, false}[:4]
	unchanged := func() {
		t.Helper()
		if !slices.Equal(vars[:5], []int{2, 0, 2, 91, 92}) || !slices.Equal(to[:6], []int{3, 2, 1, 0, 93, 94}) || !slices.Equal(is[:6], []bool{true, true, false, true, true, false}) {
			t.Fatal(vars[:5], to[:6], is[:6])
		}
	}
	some, called := must(t)(s.Exists(f, vars)), must(t)(s.Rename(f, to))
	unchanged()
	what, there := told(t, s, some, 4), told(t, s, called, 4)
	for range 2 {
		if b, e := s.Eval(f, is); !b || e != api.OK {
			t.Error(b, e)
		}
		unchanged()
		w, e := s.Pick(f)
		if !slices.Equal(w, []bool{false, false, true, false}) || e != api.OK {
			t.Error(w, e)
		}
		w = append(w, true)
		for i := range w {
			w[i] = true
		}
		unchanged()
	}
	// Other lists at the same place: nothing of the first ones was kept.
	copy(vars, []int{1, 1, 1})
	copy(to, []int{0, 1, 2, 3})
	copy(is, []bool{false, false, false, false})
	if g := must(t)(s.Rename(f, to)); g != f {
		t.Error(g)
	}
	if g := must(t)(s.Exists(f, vars)); g != must(t)(s.Ite(l[0], l[3], l[2])) {
		t.Error(g)
	}
	if told(t, s, some, 4) != what || told(t, s, called, 4) != there {
		t.Error(some, called)
	}
}

// Rules: stores know nothing of each other, and the same is answered each time, and made by the same works.
func TestSame(t *testing.T) {
	var stores []*Store
	for range 4 {
		stores = append(stores, made(t, 6, 60))
	}
	rs := make([]*rand.Rand, len(stores))
	known := make([][]side, len(stores))
	for i := range stores {
		rs[i] = rand.New(rand.NewPCG(9, 3))
		known[i] = []side{{0, truth(6, no)}, {1, truth(6, yes)}}
	}
	full := 0
	for range 300 {
		var l []step
		for i, s := range stores {
			x := stepped(rs[i], s, 6, known[i])
			if k := (side{x.node, x.want}); x.e == api.OK && !slices.Contains(known[i], k) {
				known[i] = append(known[i], k)
			}
			l = append(l, x)
		}
		if l[0].e == api.ErrBddFull {
			full++
		}
		for i, s := range stores {
			if l[i] != l[0] || s.Nodes() != stores[0].Nodes() || s.Works() != stores[0].Works() {
				t.Fatal(l, s.Nodes(), s.Works(), stores[0].Nodes(), stores[0].Works())
			}
		}
	}
	if full < 10 || full > 200 {
		t.Error(full)
	}
}
