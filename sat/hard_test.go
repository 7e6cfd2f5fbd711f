package sat

import (
	"math/rand/v2"
	"reflect"
	"slices"
	"testing"

	"skua/api"
	"skua/cnf"
)

// P7.3: clauses that it takes many conflicts to tell about.
func TestHard(t *testing.T) {
	r := rand.New(rand.NewPCG(7, 9))
	forgot := false
	for _, x := range []struct {
		name string
		l    [][]int
		sat  bool
	}{
		{"pigeons", pigeons(9, 8), false}, {"pigeons with room", pigeons(9, 9), true},
		{"circles", circles(r, 12, true), false}, {"circles that meet", circles(r, 40, false), true},
		{"a product", product(12, 2039*2053), true}, {"another one", product(12, 4093*4091), true}, {"no product", product(12, 4194301), false},
		{"planted, 200", planted(r, signs(r, 200), 860, 3), true}, {"planted, 250", planted(r, signs(r, 250), 1070, 3), true},
		{"far too many", made(r, 150, 900, 3), false}, {"few", made(r, 300, 1000, 3), true},
	} {
		s := of(t, x.l)
		a, e := s.Solve(0)
		if e != api.OK || a.Sat != x.sat || a.Sat && !model(x.l, nil, a.Model, cnf.Most(x.l)) || a.Core != nil {
			t.Errorf("%s: %v, %d", x.name, a.Sat, e)
		}
		if s.Learnt() > s.Conflicts() {
			t.Errorf("%s: %d learnt of %d conflicts", x.name, s.Learnt(), s.Conflicts())
		}
		forgot = forgot || s.Conflicts() > 2*firstRoom && s.Learnt() < s.Conflicts()/2
	}
	if !forgot {
		t.Error("it kept all")
	}
}

// P7.1: the limit, of conflicts of this call: it is come to just where there are as many, and the last one settles nothing.
func TestLimit(t *testing.T) {
	r := rand.New(rand.NewPCG(7, 7))
	none, some := 0, 0
	for _, l := range [][][]int{pigeons(4, 3), pigeons(5, 4), pigeons(6, 5), product(4, 169), product(5, 899), product(7, 16129), product(7, 16127), circles(r, 5, true), made(r, 20, 85, 3), made(r, 20, 95, 3), made(r, 50, 210, 3), {{1, 2}, {1, -2}, {-1, 3}, {-1, 4}, {-3, -4, 5}}, {{1}, {-1}}, {{1, 2}, {1, -2}, {-1, 2}, {-1, -2}}, {{}}, nil} {
		for _, assume := range [][]int{nil, {1}, {-2, 3}, {1, 2, 3}, {4, -4}, {-5}} {
			whole := of(t, l)
			want, e := whole.Solve(0, assume...)
			if e != api.OK {
				t.Fatal(e)
			}
			many := whole.Conflicts()
			for _, limit := range []int{-1 << 63, -1, 0, 1<<63 - 1} {
				s := of(t, l)
				if a, e := s.Solve(limit, assume...); e != api.OK || !reflect.DeepEqual(a, want) || s.Conflicts() != many {
					t.Fatalf("limit %d: %v, %d, behind %d conflicts, want %v", limit, a, e, s.Conflicts(), want)
				}
			}
			for limit := 1; limit <= many+2; limit++ {
				s := of(t, l)
				a, e := s.Solve(limit, assume...)
				if limit < many || limit == many && want.Sat {
					if e != api.ErrSatLimit || s.Conflicts() != limit || a.Sat || a.Model != nil || a.Core != nil {
						t.Fatalf("limit %d of %d: %v, %d, behind %d conflicts", limit, many, a, e, s.Conflicts())
					}
					some++
				} else {
					if e != api.OK || s.Conflicts() != many || !reflect.DeepEqual(a, want) {
						t.Fatalf("limit %d of %d: %v, %d, behind %d conflicts, want %v", limit, many, a, e, s.Conflicts(), want)
					}
					none++
				}
			}
		}
	}
	if none < 100 || some < 500 {
		t.Error(none, some)
	}
}

// P7.1, P7.2: each call has as many conflicts as its limit says anew, and what it learnt by then is kept for the next one.
func TestLimitAgain(t *testing.T) {
	r := rand.New(rand.NewPCG(7, 2))
	for _, x := range []struct {
		l   [][]int
		sat bool
	}{{pigeons(7, 6), false}, {planted(r, signs(r, 150), 640, 3), true}, {planted(r, signs(r, 200), 860, 3), true}} {
		for _, limit := range []int{1, 3, 50} {
			s := of(t, x.l)
			a, e := s.Solve(limit)
			calls := 1
			for e == api.ErrSatLimit && calls < 20000 {
				if s.Conflicts() != calls*limit || s.Learnt() == 0 || s.Learnt() > s.Conflicts() {
					t.Fatalf("limit %d, call %d: %d conflicts, %d learnt", limit, calls, s.Conflicts(), s.Learnt())
				}
				a, e = s.Solve(limit)
				calls++
			}
			if e != api.OK || a.Sat != x.sat || a.Sat && !model(x.l, nil, a.Model, cnf.Most(x.l)) || calls < 2 {
				t.Errorf("limit %d: %v, %d, behind %d calls", limit, a.Sat, e, calls)
			}
		}
	}
}

// P7.2: conflicts are counted over all calls; where the clauses can't hold no more come up; clauses are learnt one a conflict, at most.
func TestConflicts(t *testing.T) {
	s := of(t, pigeons(5, 4))
	if _, e := s.Solve(1); e != api.ErrSatLimit || s.Conflicts() != 1 || s.Learnt() != 1 {
		t.Error(e, s.Conflicts(), s.Learnt())
	}
	if _, e := s.Solve(2, 1, 6); e != api.ErrSatLimit || s.Conflicts() != 3 || s.Learnt() < 1 || s.Learnt() > 3 {
		t.Error(e, s.Conflicts(), s.Learnt())
	}
	if a, e := s.Solve(0); a.Sat || e != api.OK || s.Conflicts() <= 3 || s.Learnt() > s.Conflicts() {
		t.Error(a, e, s.Conflicts(), s.Learnt())
	}
	many := s.Conflicts()
	for _, assume := range [][]int{nil, {1}, {2, -2}, {30}} {
		if a, e := s.Solve(1, assume...); a.Sat || e != api.OK || a.Core != nil || a.Model != nil || s.Conflicts() != many {
			t.Error(a, e, s.Conflicts(), many)
		}
	}
	s = of(t, [][]int{{1, 2}, {1, -2}, {-1, 2}, {-1, -2}})
	if _, e := s.Solve(1); e != api.ErrSatLimit || s.Conflicts() != 1 || s.Learnt() != 1 { // whatever is guessed, its other way is learnt
		t.Error(e, s.Conflicts(), s.Learnt())
	}
	s = of(t, [][]int{{1, 2}, {3, -4}})
	if a, e := s.Solve(1); !a.Sat || e != api.OK || s.Conflicts() != 0 || s.Learnt() != 0 {
		t.Error(a, e, s.Conflicts(), s.Learnt())
	}
}

// P7.3: one solver is asked all about a product, by assumptions, with others asked between: what was asked before doesn't matter.
func TestAskedBefore(t *testing.T) {
	const bits = 5
	// Without its bits it is any product; these are assumed.
	isBit := func(c []int) bool { return len(c) == 1 && c[0] != 1 }
	isNone := func(c []int) bool { return !isBit(c) }
	l := slices.DeleteFunc(product(bits, 0), isBit)
	ones := slices.DeleteFunc(product(bits, 1<<(2*bits)-1), isNone)
	s := of(t, l)
	var assumed []int
	for n := uint64(0); n < 1<<(2*bits); n += 3 {
		assumed = assumed[:0]
		for i, c := range ones {
			v := c[0]
			if n>>i&1 == 0 {
				v = -v
			}
			assumed = append(assumed, v)
		}
		s.Solve(2, assumed[n%bits:]...)
		a, e := s.Solve(0, assumed...)
		if e != api.OK || a.Sat != composite(n, bits) {
			t.Fatalf("%d: %v, %d", n, a.Sat, e)
		}
		if a.Sat {
			if !model(l, assumed, a.Model, s.Vars()) {
				t.Fatalf("%d: no model", n)
			}
			continue
		}
		if !rises(a.Core, assumed) {
			t.Fatalf("%d: core %v of %v", n, a.Core, assumed)
		}
		if b, e := of(t, l).Solve(0, a.Core...); b.Sat || e != api.OK {
			t.Fatalf("%d: core %v: %v, %d", n, a.Core, b.Sat, e)
		}
	}
}

// composite is whether a number is the product of two of so many bits above 1.
func composite(n uint64, bits int) bool {
	for a := uint64(2); a < 1<<bits; a++ {
		if n%a == 0 && n/a > 1 && n/a < 1<<bits {
			return true
		}
	}
	return false
}

// P7.3: all models of clauses, each ruled out by a clause when it is found.
func TestRuleOut(t *testing.T) {
	r := rand.New(rand.NewPCG(7, 8))
	for range 40 {
		const vars = 10
		l := made(r, vars, 10+r.IntN(25), 3)
		w := allWorlds(vars)
		s := of(t, l)
		s.Add(vars, -vars)
		for _, c := range l {
			w.add(c)
		}
		found := 0
		for {
			a, e := s.Solve(0)
			if e != api.OK || a.Sat && !model(l, nil, a.Model, vars) {
				t.Fatalf("%v: %v, %d", l, a, e)
			}
			if !a.Sat {
				break
			}
			found++
			not := make([]int, vars)
			for i, n := range a.Model {
				not[i] = -n
			}
			s.Add(not...)
			if found > len(w.left) {
				break
			}
		}
		if found != len(w.left) {
			t.Fatalf("%v: %d, want %d", l, found, len(w.left))
		}
	}
}

// Rules: two solvers that are told the same answer the same.
func TestSame(t *testing.T) {
	l := product(8, 251*241)
	a, b := of(t, l), of(t, l)
	for _, assume := range [][]int{nil, {4}, {-4, 5}, {-5, 6}, {10, 11}} {
		x, e := a.Solve(0, assume...)
		y, f := b.Solve(0, assume...)
		if e != api.OK || f != api.OK || !reflect.DeepEqual(x, y) || a.Conflicts() != b.Conflicts() || a.Learnt() != b.Learnt() {
			t.Error(assume, e, f, a.Conflicts(), b.Conflicts())
		}
	}
}

// P7.3: what is learnt hangs on what was assumed, however far ahead of it: a long row of literals that follow from it, and at its end clauses that fail whatever is guessed.
func TestFarAhead(t *testing.T) {
	for _, long := range []int{2, 100, deep - 1, deep, deep + 1, deep + 2, 3 * deep, 1 << 17} {
		s := New()
		for n := 1; n < long; n++ {
			s.Add(n, -n-1)
		}
		a, b := long+1, long+2
		for _, c := range [][]int{{a, b}, {a, -b}, {-a, b}, {-a, -b}} {
			s.Add(append(c, long)...)
		}
		if a, e := s.Solve(0, -1); a.Sat || e != api.OK || !slices.Equal(a.Core, []int{-1}) || s.Conflicts() < 2 {
			t.Errorf("%d: %v, %v, %d", long, a.Sat, a.Core, e)
		}
		for _, n := range []int{1, a, -a, b, -b} {
			if a, e := s.Solve(0, n); !a.Sat || e != api.OK || a.Model[long-1] != long || a.Model[0] != 1 {
				t.Errorf("%d with %d: %v, %v, %d", long, n, a.Sat, a.Core, e)
			}
		}
	}
}

// P7.3: clauses that were forgotten are in no one's way, and the room grows.
func TestForget(t *testing.T) {
	s := of(t, pigeons(9, 8))
	var e api.Errno
	last, fewer := 0, 0
	for e = api.ErrSatLimit; e == api.ErrSatLimit; _, e = s.Solve(500) {
		if s.Learnt() < last {
			fewer++
		}
		last = s.Learnt()
		for _, l := range s.watches {
			if slices.ContainsFunc(l, func(w watch) bool { return w.clause.gone }) {
				t.Fatal("a clause is gone, but watched")
			}
		}
	}
	if e != api.OK || fewer < 2 || s.room < firstRoom+2*moreRoom {
		t.Error(e, fewer, s.room)
	}
}

// The heap tells variables by weight, and lightening doesn't change which comes first.
func TestOrder(t *testing.T) {
	r := rand.New(rand.NewPCG(7, 5))
	o := order{step: firstStep}
	for v := range 50 {
		o.add(v)
	}
	light := false
	for range 3000 {
		o.meet(r.IntN(50))
		o.age()
		light = light || o.step < firstStep<<8 && o.weight[slices.Index(o.weight, slices.Max(o.weight))] > firstStep<<8
		if r.IntN(3) == 0 {
			if v, ok := o.take(); ok {
				for _, w := range o.heap {
					if o.weight[w] > o.weight[v] {
						t.Fatal(v, w, o.weight)
					}
				}
			}
			o.add(r.IntN(50))
		}
		for i, v := range o.heap {
			if o.at[v] != i {
				t.Fatal(i, v, o.at)
			}
		}
	}
	for v := range 50 {
		o.add(v)
	}
	for left := 50; left > 0; left-- {
		if _, ok := o.take(); !ok {
			t.Fatal(left)
		}
	}
	if v, ok := o.take(); ok {
		t.Error(v)
	}
	if !light {
		t.Error("it never was too heavy")
	}
}

func TestLuby(t *testing.T) {
	var l []int
	for i := range 31 {
		l = append(l, luby(i+1))
	}
	if !slices.Equal(l, []int{1, 1, 2, 1, 1, 2, 4, 1, 1, 2, 1, 1, 2, 4, 8, 1, 1, 2, 1, 1, 2, 4, 1, 1, 2, 1, 1, 2, 4, 8, 16}) {
		t.Error(l)
	}
}
