package sat

import (
	"math"
	"math/rand/v2"
	"slices"
	"testing"

	"skua/api"
	"skua/cnf"
)

// wrong is numbers that are no literals.
var wrong = []int{0, api.MaxLits + 1, -api.MaxLits - 1, math.MaxInt, math.MinInt, math.MinInt + 1, 1 << 32, 1<<32 + 1, -1 << 32}

// P7.1: where clauses can hold, and what is told of it.
func TestSolve(t *testing.T) {
	examples := [][]int{{1, 2}, {-1, 2}, {1, -2}}
	none := append(slices.Clone(examples), []int{-1, -2})
	for _, x := range []struct {
		l      [][]int
		assume []int
		sat    bool
		want   []int // the model, or the core: where there is one alone
	}{
		{examples, nil, true, []int{1, 2}}, {examples, []int{-2}, false, []int{-2}}, {examples, []int{-1}, false, []int{-1}}, {examples, []int{2, 1}, true, []int{1, 2}}, {examples, []int{-3}, true, []int{1, 2, -3}},
		{none, nil, false, nil}, {none, []int{}, false, nil}, {none, []int{3}, false, nil}, {none, []int{3, 4, -5}, false, nil},

		{nil, nil, true, nil}, {nil, []int{1}, true, []int{1}}, {nil, []int{-2, 1}, true, []int{1, -2}}, {nil, []int{-2, -1, -2}, true, []int{-1, -2}},
		{[][]int{{}}, nil, false, nil}, {[][]int{{}}, []int{1}, false, nil}, {[][]int{{1}, {}}, []int{1}, false, nil}, {[][]int{{}, {1}, {-1}}, []int{-1}, false, nil},
		{[][]int{{1}}, nil, true, []int{1}}, {[][]int{{-1}}, nil, true, []int{-1}}, {[][]int{{1}, {-1}}, nil, false, nil}, {[][]int{{-1}, {2}, {1}}, []int{2}, false, nil}, {[][]int{{1}, {1}}, []int{1}, true, []int{1}},
		{[][]int{{1}}, []int{-1}, false, []int{-1}}, {[][]int{{-1}}, []int{2, 1, 3}, false, []int{1}}, {[][]int{{1}, {-1, 2}}, []int{-2}, false, []int{-2}}, {[][]int{{-1, 2}, {1}}, []int{-3, -2, 4}, false, []int{-2}},

		// The same literal twice is one; a clause with both literals of a variable always holds.
		{[][]int{{1, 1}}, nil, true, []int{1}}, {[][]int{{-2, -2, -2}, {1, 2, 1}}, nil, true, []int{1, -2}}, {[][]int{{1, 1}, {-1, -1}}, nil, false, nil}, {[][]int{{2, 1, 2}, {-1}}, []int{-2}, false, []int{-2}},
		{[][]int{{1, -1}}, []int{1}, true, []int{1}}, {[][]int{{1, -1}}, []int{-1}, true, []int{-1}}, {[][]int{{2, -1, -2}, {1}}, []int{-2}, true, []int{1, -2}}, {[][]int{{3, 1, -3}}, []int{-1, 2, -3}, true, []int{-1, 2, -3}},

		// Both literals of a variable are assumed.
		{nil, []int{1, -1}, false, []int{-1, 1}}, {nil, []int{-1, 1}, false, []int{-1, 1}}, {nil, []int{3, 2, -7, -2, 4}, false, []int{-2, 2}}, {[][]int{{1, 2}}, []int{5, 5, -5}, false, []int{-5, 5}}, {nil, []int{api.MaxLits, -api.MaxLits}, false, []int{-api.MaxLits, api.MaxLits}},

		// What is assumed comes to a clause together; the order doesn't matter.
		{[][]int{{-1, -2}}, []int{1, 2}, false, []int{1, 2}}, {[][]int{{-1, -2}}, []int{2, 3, 1, 3}, false, []int{1, 2}}, {[][]int{{1, 2, 3}}, []int{-3, -2, -1}, false, []int{-3, -2, -1}}, {[][]int{{1, 2, 3}}, []int{-3, -1}, true, []int{-1, 2, -3}},
		{[][]int{{-1, 2}, {-2, 3}, {-3, 4}}, []int{-4, 1}, false, []int{-4, 1}}, {[][]int{{-1, 2}, {-2, 3}, {-3, 4}}, []int{6, -4, 5, 1, 1}, false, []int{-4, 1}}, {[][]int{{-1, 2}, {-2, 3}, {-3, 4}}, []int{1}, true, []int{1, 2, 3, 4}}, {[][]int{{-1, 2}, {-2, 3}, {-3, 4}}, []int{-4}, true, []int{-1, -2, -3, -4}},
		{[][]int{{-1, 2}, {-1, -2}}, []int{1, 5}, false, []int{1}}, {[][]int{{-1, 2, 3}, {-1, 2, -3}, {-1, -2, 3}, {-1, -2, -3}}, []int{5, 1, -6}, false, []int{1}}, {[][]int{{-1, 2, 3}, {-1, 2, -3}, {-1, -2, 3}, {-1, -2, -3}}, []int{3}, true, nil},
	} {
		a, e := of(t, x.l).Solve(0, x.assume...)
		vars := cnf.Most(append(slices.Clone(x.l), x.assume))
		switch {
		case e != api.OK || a.Sat != x.sat:
			t.Errorf("%v with %v: %v, %d", x.l, x.assume, a, e)
		case a.Sat && (!model(x.l, x.assume, a.Model, vars) || a.Core != nil || x.want != nil && !slices.Equal(a.Model, x.want)):
			t.Errorf("%v with %v: model %v, core %v, want %v", x.l, x.assume, a.Model, a.Core, x.want)
		case !a.Sat && (!slices.Equal(a.Core, x.want) || a.Model != nil):
			t.Errorf("%v with %v: core %v, model %v, want %v", x.l, x.assume, a.Core, a.Model, x.want)
		}
	}
}

// P7.1: a clause with a number that is no literal isn't added, and nothing of it.
func TestAddRefuses(t *testing.T) {
	for _, n := range wrong {
		for _, c := range [][]int{{n}, {n, 9}, {-1, n}, {-1, 9, n}, {9, n, 8, 7}, {n, n}, {9, -9, n}} {
			s := of(t, [][]int{{1, 2}})
			if e := s.Add(c...); e != api.ErrCnfLit {
				t.Errorf("%v: %d", c, e)
			}
			if s.Vars() != 2 || s.Learnt() != 0 || s.Conflicts() != 0 {
				t.Errorf("%v: %d, %d, %d", c, s.Vars(), s.Learnt(), s.Conflicts())
			}
			if a, e := s.Solve(0, 1, -2); !a.Sat || e != api.OK || !slices.Equal(a.Model, []int{1, -2}) {
				t.Errorf("%v: %v, %d", c, a, e)
			}
		}
	}
	for _, c := range [][]int{nil, {}, {1}, {-1}, {api.MaxLits}, {-api.MaxLits}, {api.MaxLits - 1, -api.MaxLits}, {1, -1}, {3, 3}} {
		if e := New().Add(c...); e != api.OK {
			t.Errorf("%v: %d", c, e)
		}
	}
}

// P7.1: nothing is assumed with a number that is no literal, wherever it stands, and whatever the clauses and the limit are.
func TestSolveRefuses(t *testing.T) {
	for _, l := range [][][]int{nil, {{1, 2}}, {{1}, {-1}}, {{}}, {{1, 2}, {1, -2}, {-1, 2}, {-1, -2}}} {
		s := of(t, l)
		for _, n := range wrong {
			for _, assume := range [][]int{{n}, {9, n}, {n, 9}, {1, -1, n}, {n, 2, -2}, {3, n, n, 4}} {
				for _, limit := range []int{-1, 0, 1, 100} {
					a, e := s.Solve(limit, assume...)
					if e != api.ErrCnfLit || a.Sat || a.Model != nil || a.Core != nil {
						t.Fatalf("%v with %v: %v, %d", l, assume, a, e)
					}
				}
			}
		}
		if s.Vars() != cnf.Most(l) || s.Conflicts() != 0 || s.Learnt() != 0 {
			t.Errorf("%v: %d, %d, %d", l, s.Vars(), s.Conflicts(), s.Learnt())
		}
	}
}

// P7.2: Vars, of clauses and of what was assumed, however that went.
func TestVars(t *testing.T) {
	s := New()
	if s.Vars() != 0 || s.Conflicts() != 0 || s.Learnt() != 0 {
		t.Error(s.Vars(), s.Conflicts(), s.Learnt())
	}
	want := func(vars int) {
		t.Helper()
		if s.Vars() != vars {
			t.Errorf("%d, want %d", s.Vars(), vars)
		}
	}
	solve := func(limit int, sat bool, e api.Errno, assume ...int) {
		t.Helper()
		a, got := s.Solve(limit, assume...)
		if a.Sat != sat || got != e || sat && len(a.Model) != s.Vars() {
			t.Errorf("%v, %d", a, got)
		}
	}
	s.Add(3, -4)
	want(4)
	s.Add(-2)
	want(4)
	s.Add(6, -6)
	want(6)
	solve(0, true, api.OK)
	want(6)
	solve(0, true, api.OK, -7)
	want(7)
	solve(0, true, api.OK, 8, 1)
	want(8)
	solve(0, false, api.OK, 2, 9)
	want(9)
	solve(0, false, api.OK, -10, 10)
	want(10)
	solve(0, false, api.ErrCnfLit, 11, 0)
	want(10)
	for _, c := range pigeons(4, 3) {
		s.Add(append(c, 13)...)
	}
	want(13)
	solve(1, false, api.ErrSatLimit, -13, 15)
	want(15)
	solve(0, true, api.OK)
	s.Add(-13)
	solve(0, false, api.OK, 14)
	want(15)
	solve(0, false, api.OK, 16)
	want(16)
	s.Add(17, 16)
	want(17)
	solve(0, false, api.OK)
	s.Add()
	want(17)
	s.Add(api.MaxLits, 0)
	want(17)
	s.Add(-api.MaxLits)
	want(api.MaxLits)
}

// P7.1: the greatest variables, and a clause that has as many as there may be.
func TestSolveGreat(t *testing.T) {
	const most = api.MaxLits
	s := of(t, [][]int{{-most, 1}, {most}, {-1, -2, 1 - most}})
	a, e := s.Solve(0, 2)
	if !a.Sat || e != api.OK || len(a.Model) != most || a.Model[0] != 1 || a.Model[1] != 2 || a.Model[most-2] != 1-most || a.Model[most-1] != most {
		t.Fatal(a.Sat, e, len(a.Model))
	}
	if a, e = s.Solve(0, 2, 3, most-1); a.Sat || e != api.OK || !slices.Equal(a.Core, []int{2, most - 1}) {
		t.Error(a.Sat, a.Core, e)
	}
	var long, not []int
	for n := 1; n <= most; n++ {
		long, not = append(long, n), append(not, -n)
	}
	s = of(t, [][]int{long})
	if a, e = s.Solve(0, not...); a.Sat || e != api.OK || !slices.Equal(a.Core, sorted(not)) {
		t.Error(a.Sat, len(a.Core), e)
	}
	if a, e = s.Solve(0, not[1:]...); !a.Sat || e != api.OK || !model([][]int{{1}}, not[1:], a.Model, most) {
		t.Error(a.Sat, len(a.Model), e)
	}
	s = New()
	for n := most; n > 1; n-- {
		s.Add(n, 1-n)
	}
	if a, e = s.Solve(0, 1); !a.Sat || e != api.OK || !slices.Equal(a.Model, long) {
		t.Error(a.Sat, len(a.Model), e)
	}
	if a, e = s.Solve(0, 5, -most, 1); a.Sat || e != api.OK || !rises(a.Core, []int{-most, 1, 5}) || len(a.Core) < 2 || a.Core[0] != -most {
		t.Error(a.Sat, a.Core, e)
	}
}

// sorted is numbers, rising.
func sorted(l []int) []int {
	l = slices.Clone(l)
	slices.Sort(l)
	return l
}

// asked is what was asked of a solver, and what it answered.
type asked struct {
	l         [][]int
	assume    []int
	limit     int
	vars      int
	can       bool
	conflicts int // of this call
	answer    api.Answer
	e         api.Errno
}

// right is whether an answer is as its worlds tell.
func (x *asked) right(w *worlds) bool {
	a := x.answer
	switch {
	case x.e == api.ErrSatLimit:
		return x.limit > 0 && x.conflicts == x.limit && !a.Sat && a.Model == nil && a.Core == nil
	case x.e != api.OK || a.Sat != x.can || x.limit > 0 && x.conflicts > x.limit:
		return false
	case a.Sat:
		return a.Core == nil && model(x.l, x.assume, a.Model, x.vars) && (x.limit <= 0 || x.conflicts < x.limit)
	default:
		return a.Model == nil && rises(a.Core, x.assume) && !w.can(a.Core)
	}
}

// P7.1, P7.3: clauses made by chance, a few more each time, asked about by assumptions made by chance, with and without a limit: as all worlds tell.
func TestSolveAsWanted(t *testing.T) {
	r := rand.New(rand.NewPCG(7, 1))
	yes, no, cores, stopped, hard := 0, 0, 0, 0, 0
	for range 1000 {
		vars, long := 1+r.IntN(15), 2+r.IntN(2)
		s, w := New(), allWorlds(vars)
		x := asked{}
		for range 10 {
			for range r.IntN(2 + vars) {
				c := numbers(r, vars, long)
				if r.IntN(60) == 0 {
					c = numbers(r, vars, 1+r.IntN(5))
				}
				x.l = append(x.l, c)
				w.add(c)
				s.Add(c...)
			}
			x.assume, x.limit = numbers(r, vars, r.IntN(4)*r.IntN(3)), r.IntN(8)-4
			x.can, x.vars = w.can(x.assume), max(x.vars, cnf.Most(x.l), cnf.Most([][]int{x.assume}))
			before := s.Conflicts()
			x.answer, x.e = s.Solve(x.limit, x.assume...)
			x.conflicts = s.Conflicts() - before
			if s.Vars() != x.vars || !x.right(w) {
				t.Fatalf("%+v", x)
			}
			switch {
			case x.e == api.ErrSatLimit:
				stopped++
			case x.conflicts > 2:
				hard++
			case x.answer.Sat:
				yes++
			case len(x.answer.Core) > 0 && len(x.answer.Core) < len(x.assume):
				cores++
			default:
				no++
			}
		}
	}
	if yes < 1000 || no < 1000 || cores < 300 || stopped < 100 || hard < 100 {
		t.Error(yes, no, cores, stopped, hard)
	}
}

// P7.3: what is learnt follows from the clauses alone, whatever was assumed.
func TestLearntFollows(t *testing.T) {
	r := rand.New(rand.NewPCG(7, 3))
	many := 0
	for range 200 {
		const vars = 14
		s, w := New(), allWorlds(vars)
		for _, c := range planted(r, signs(r, vars), 50, 3) {
			s.Add(c...)
			w.add(c)
		}
		for range 20 {
			s.Solve(r.IntN(20), numbers(r, vars, r.IntN(4))...)
		}
		clauses := make([][]int, len(s.learnt))
		for i, c := range s.learnt {
			clauses[i] = s.told(c.lits)
		}
		for _, p := range s.trail {
			clauses = append(clauses, []int{s.name(p)})
		}
		for _, c := range clauses {
			if at := slices.IndexFunc(w.left, func(is uint32) bool { return !anyTrue(is, c) }); at >= 0 {
				t.Fatalf("%v doesn't follow", c)
			}
		}
		many += len(clauses)
	}
	if many < 1000 {
		t.Error(many)
	}
}

// Rules: what is handed in is neither changed nor kept, what is handed out is new.
func TestSharesNothing(t *testing.T) {
	s := New()
	c := []int{3, -1, 3, 2, 99, 98}
	s.Add(c[:4]...)
	if !slices.Equal(c, []int{3, -1, 3, 2, 99, 98}) {
		t.Error(c)
	}
	copy(c, []int{-3, -3, -3, -3})
	assume := []int{-2, 1, -2, 97, 96}
	a, e := s.Solve(0, assume[:3]...)
	if e != api.OK || !slices.Equal(a.Model, []int{1, -2, 3}) || !slices.Equal(assume, []int{-2, 1, -2, 97, 96}) {
		t.Error(a, e, assume)
	}
	copy(a.Model, []int{5, 5, 5})
	if b, e := s.Solve(0, assume[:3]...); e != api.OK || !slices.Equal(b.Model, []int{1, -2, 3}) {
		t.Error(b, e)
	}
	assume = []int{-3, 1, -2, 97}
	a, e = s.Solve(0, assume[:3]...)
	if e != api.OK || a.Sat || !slices.Equal(a.Core, []int{-3, -2, 1}) || !slices.Equal(assume, []int{-3, 1, -2, 97}) {
		t.Error(a, e, assume)
	}
	a.Core[0] = 7
	if b, e := s.Solve(0, assume[:3]...); e != api.OK || !slices.Equal(b.Core, []int{-3, -2, 1}) {
		t.Error(b, e)
	}
}
