package cnf

import (
	"math"
	"math/rand/v2"
	"slices"
	"testing"

	"skua/api"
)

// P6.1: the edges of what a literal may be.
func TestCheck(t *testing.T) {
	for _, x := range []struct {
		l    [][]int
		want api.Errno
	}{
		{nil, api.OK}, {[][]int{}, api.OK}, {[][]int{nil}, api.OK}, {[][]int{{}, {}}, api.OK},
		{[][]int{{1}}, api.OK}, {[][]int{{-1}}, api.OK}, {[][]int{{1, -1, 1}}, api.OK},
		{[][]int{{1 << 20}}, api.OK}, {[][]int{{-1 << 20}}, api.OK}, {[][]int{{1<<20 - 1, 1 - 1<<20}}, api.OK},
		{[][]int{{0}}, api.ErrCnfLit}, {[][]int{{1<<20 + 1}}, api.ErrCnfLit}, {[][]int{{-1<<20 - 1}}, api.ErrCnfLit},
		{[][]int{{1, 2, 0}}, api.ErrCnfLit}, {[][]int{{1}, {}, {2, 0, 3}, {4}}, api.ErrCnfLit}, {[][]int{{0}, {1}}, api.ErrCnfLit},
		{[][]int{{math.MaxInt}}, api.ErrCnfLit}, {[][]int{{math.MinInt}}, api.ErrCnfLit}, {[][]int{{math.MinInt + 1}}, api.ErrCnfLit},
		{[][]int{{1 << 32}}, api.ErrCnfLit}, {[][]int{{1<<32 + 1}}, api.ErrCnfLit}, {[][]int{{1, -1 << 62}}, api.ErrCnfLit},
	} {
		if e := Check(x.l); e != x.want {
			t.Errorf("%v: %d, want %d", x.l, e, x.want)
		}
	}
}

// P6.1: what may not be is passed over by Most.
func TestMost(t *testing.T) {
	for _, x := range []struct {
		l    [][]int
		want int
	}{
		{nil, 0}, {[][]int{}, 0}, {[][]int{{}, nil}, 0}, {[][]int{{0}}, 0}, {[][]int{{0}, {0, 0}}, 0},
		{[][]int{{1}}, 1}, {[][]int{{-1}}, 1}, {[][]int{{3, -9}, {0}}, 9}, {[][]int{{-9}, {3, 10}, {2}}, 10}, {[][]int{{7, -7}}, 7}, {[][]int{{5, 4}, {}, {3}}, 5},
		{[][]int{{1 << 20}}, 1 << 20}, {[][]int{{-1 << 20}}, 1 << 20}, {[][]int{{1<<20 + 1, 4}}, 4}, {[][]int{{-1<<20 - 1, -4}}, 4},
		{[][]int{{math.MaxInt}, {math.MinInt}}, 0}, {[][]int{{math.MinInt, 2, math.MaxInt}}, 2}, {[][]int{{math.MinInt + 1, -2}}, 2},
	} {
		if n := Most(x.l); n != x.want {
			t.Errorf("%v: %d, want %d", x.l, n, x.want)
		}
	}
}

// P6.1: Clean, of numbers that are no literals, too.
func TestClean(t *testing.T) {
	for _, x := range []struct {
		c, want []int
		ok      bool
	}{
		{nil, nil, true}, {[]int{}, nil, true}, {[]int{5}, []int{5}, true}, {[]int{-5}, []int{-5}, true},
		{[]int{3, -1, 3, 2}, []int{-1, 2, 3}, true}, {[]int{2, 2, 2}, []int{2}, true}, {[]int{-3, -1, -2, -1}, []int{-3, -2, -1}, true}, {[]int{10, 9, -8}, []int{-8, 9, 10}, true},
		{[]int{3, -1, 1}, nil, false}, {[]int{1, -1}, nil, false}, {[]int{-1, 1}, nil, false}, {[]int{2, 1, 4, -2, 4}, nil, false},
		{[]int{0}, []int{0}, true}, {[]int{0, 0, 1}, []int{0, 1}, true}, {[]int{0, 1, -1}, nil, false}, {[]int{-2, 0, -1}, []int{-2, -1, 0}, true},
		{[]int{1 << 20, 1<<20 + 1}, []int{1 << 20, 1<<20 + 1}, true}, {[]int{1<<20 + 1, -1<<20 - 1}, nil, false}, {[]int{1 << 40, -1 << 40}, nil, false},
		{[]int{math.MinInt}, []int{math.MinInt}, true}, {[]int{math.MinInt, 4, math.MinInt}, []int{math.MinInt, 4}, true},
		{[]int{math.MaxInt, math.MinInt}, []int{math.MinInt, math.MaxInt}, true}, {[]int{math.MaxInt, math.MinInt + 1}, nil, false}, {[]int{math.MinInt, 0}, []int{math.MinInt, 0}, true},
	} {
		if c, ok := Clean(x.c); !slices.Equal(c, x.want) || ok != x.ok {
			t.Errorf("%v: %v, %v, want %v, %v", x.c, c, ok, x.want, x.ok)
		}
	}
}

// P6.1: Clean, of all short clauses of a few numbers.
func TestCleanAsWanted(t *testing.T) {
	numbers := []int{math.MinInt, -2, -1, 0, 1, 2, math.MaxInt}
	each(numbers, 4, func(c []int) {
		var want []int
		both := false
		for _, n := range numbers {
			if slices.Contains(c, n) {
				want = append(want, n)
				both = both || n > 0 && slices.Contains(c, -n)
			}
		}
		if both {
			want = nil
		}
		if l, ok := Clean(c); !slices.Equal(l, want) || ok == both {
			t.Fatalf("%v: %v, %v, want %v, %v", c, l, ok, want, !both)
		}
	})
}

// P6.2: Holds, of numbers that are no literals, too.
func TestHolds(t *testing.T) {
	l := [][]int{{1, -2}, {2, 3}}
	for _, x := range []struct {
		l    [][]int
		is   []int
		want bool
	}{
		{nil, nil, true}, {nil, []int{1}, true}, {[][]int{}, nil, true}, {[][]int{{}}, nil, false}, {[][]int{nil}, []int{1, -1}, false},
		{l, []int{1, 3}, true}, {l, []int{3, 1, 7}, true}, {l, []int{-2, 2}, true}, {l, []int{1, 2, 3}, true}, {l, []int{1, 1, 2}, true},
		{l, []int{1}, false}, {l, []int{3}, false}, {l, []int{2}, false}, {l, []int{-1, -3}, false}, {l, nil, false}, {l, []int{-2, -3, -1}, false},
		{[][]int{{1}, {}}, []int{1}, false}, {[][]int{{}, {1}}, []int{1}, false}, {[][]int{{1, 1}}, []int{1}, true}, {[][]int{{1, -1}}, nil, false}, {[][]int{{1, -1}}, []int{-1}, true},
		{[][]int{{0}}, []int{0}, true}, {[][]int{{0}}, []int{1}, false}, {[][]int{{1}}, []int{0}, false}, {[][]int{{5, 0}}, []int{0}, true},
		{[][]int{{math.MinInt}}, []int{math.MinInt}, true}, {[][]int{{math.MinInt}}, []int{math.MaxInt}, false}, {[][]int{{1 << 20 * 4}}, []int{1 << 20 * 4}, true}, {[][]int{{1 << 40}}, []int{-1 << 40}, false},
	} {
		if ok := Holds(x.l, x.is...); ok != x.want {
			t.Errorf("%v with %v: %v", x.l, x.is, ok)
		}
	}
}

// P6.2: Holds, of clauses made by chance.
func TestHoldsAsWanted(t *testing.T) {
	r := rand.New(rand.NewPCG(6, 2))
	yes := 0
	for range 20000 {
		l, is := made(r, 5, r.IntN(5), 4), numbers(r, 5, r.IntN(8))
		want := true
		for _, c := range l {
			one := false
			for _, n := range c {
				one = one || slices.Contains(is, n)
			}
			want = want && one
		}
		if want {
			yes++
		}
		if Holds(l, is...) != want {
			t.Fatalf("%v with %v: %v", l, is, !want)
		}
	}
	if yes < 2000 || yes > 18000 {
		t.Error(yes)
	}
}

// P6.3: Resolve, of clauses that aren't clean, and of wrong variables, too.
func TestResolve(t *testing.T) {
	const top, low = math.MaxInt, math.MinInt
	for _, x := range []struct {
		a, b []int
		v    int
		want []int
		ok   bool
	}{
		{[]int{1, 2}, []int{-1, 2, 5}, 1, []int{2, 5}, true}, {[]int{2, 3}, []int{-2, 1}, 2, []int{1, 3}, true}, {[]int{1}, []int{-1}, 1, nil, true},
		{[]int{1}, []int{-1, 7}, 1, []int{7}, true}, {[]int{-4, 1}, []int{-1}, 1, []int{-4}, true}, {[]int{-9, -3, 2, 8}, []int{-9, -8, 3}, 8, nil, false}, {[]int{-9, 2, 8}, []int{-9, -8, 3}, 8, []int{-9, 2, 3}, true},
		{[]int{1, 2}, []int{-2, -1}, 1, nil, false}, {[]int{1, 2}, []int{-2, -1}, 2, nil, false},

		{[]int{1}, []int{1}, 1, nil, false}, {[]int{-1}, []int{-1}, 1, nil, false}, {[]int{-1}, []int{1}, 1, nil, false}, {[]int{2}, []int{-1}, 1, nil, false}, {[]int{1}, []int{2}, 1, nil, false}, {nil, nil, 1, nil, false}, {[]int{1}, nil, 1, nil, false}, {nil, []int{-1}, 1, nil, false},
		{[]int{2, 1}, []int{-1}, 1, nil, false}, {[]int{1}, []int{3, -1}, 1, nil, false}, {[]int{1, 1}, []int{-1}, 1, nil, false}, {[]int{1}, []int{-1, -1}, 1, nil, false}, {[]int{-1, 1}, []int{-1}, 1, nil, false}, {[]int{1}, []int{-1, 1}, 1, nil, false}, {[]int{-2, 1, 2}, []int{-1}, 1, nil, false}, {[]int{1}, []int{-2, -1, 2}, 1, nil, false}, {[]int{1, 3, 3}, []int{-1}, 1, nil, false},
		{[]int{-1}, []int{1}, -1, nil, false}, {[]int{0}, []int{0}, 0, nil, false}, {[]int{0, 1}, []int{0, 2}, 0, nil, false}, {[]int{low}, []int{low}, low, nil, false}, {[]int{-2}, []int{2}, -2, nil, false},

		{[]int{0, 1}, []int{-1, 0}, 1, []int{0}, true}, {[]int{low, 1}, []int{low, -1}, 1, []int{low}, true}, {[]int{1, 1 << 40}, []int{-1 << 41, -1}, 1, []int{-1 << 41, 1 << 40}, true}, {[]int{1, 1 << 40}, []int{-1 << 40, -1}, 1, nil, false},
		{[]int{1 << 30}, []int{-1 << 30, 4}, 1 << 30, []int{4}, true}, {[]int{top}, []int{low, -top}, top, []int{low}, true}, {[]int{top}, []int{low}, top, nil, false}, {[]int{low}, []int{-top}, top, nil, false},
	} {
		if c, ok := Resolve(x.a, x.b, x.v); !slices.Equal(c, x.want) || ok != x.ok {
			t.Errorf("%v, %v by %d: %v, %v, want %v, %v", x.a, x.b, x.v, c, ok, x.want, x.ok)
		}
	}
}

// P6.3: Resolve, of all pairs of short clauses of a few numbers.
func TestResolveAsWanted(t *testing.T) {
	rising := func(c []int) bool {
		for i := range c {
			if i > 0 && c[i] <= c[i-1] {
				return false
			}
		}
		return true
	}
	both := func(c []int) bool {
		return slices.Contains(c, 1) && slices.Contains(c, -1) || slices.Contains(c, 2) && slices.Contains(c, -2)
	}
	var clauses [][]int
	each([]int{-2, -1, 0, 1, 2}, 3, func(c []int) { clauses = append(clauses, slices.Clone(c)) })
	right := 0
	for _, a := range clauses {
		for _, b := range clauses {
			for v := -3; v <= 3; v++ {
				ok := v > 0 && rising(a) && rising(b) && !both(a) && !both(b) && slices.Contains(a, v) && slices.Contains(b, -v)
				var want []int
				for n := -3; ok && n <= 3; n++ {
					if n != v && n != -v && (slices.Contains(a, n) || slices.Contains(b, n)) {
						want = append(want, n)
					}
				}
				if both(want) {
					ok, want = false, nil
				}
				if ok {
					right++
				}
				if c, is := Resolve(a, b, v); !slices.Equal(c, want) || is != ok {
					t.Fatalf("%v, %v by %d: %v, %v, want %v, %v", a, b, v, c, is, want, ok)
				}
			}
		}
	}
	if right < 30 {
		t.Error(right)
	}
}

// P6.5: what resolves holds wherever both do.
func TestResolveFollows(t *testing.T) {
	const vars = 5
	r := rand.New(rand.NewPCG(6, 5))
	found := 0
	for range 20000 {
		a, _ := Clean(numbers(r, vars, 1+r.IntN(4)))
		b, _ := Clean(numbers(r, vars, 1+r.IntN(4)))
		for v := 1; v <= vars; v++ {
			c, ok := Resolve(a, b, v)
			if !ok {
				continue
			}
			found++
			for _, is := range assignments(vars) {
				if Holds([][]int{a, b}, is...) && !Holds([][]int{c}, is...) {
					t.Fatalf("%v, %v by %d: %v doesn't hold with %v", a, b, v, c, is)
				}
			}
		}
	}
	if found < 1000 {
		t.Error(found)
	}
}

// Rules: arguments stay as they are, what is told is new memory.
func TestNothingKept(t *testing.T) {
	room := []int{3, 1, 1, 2, 99, 98}
	c := room[:4]
	out, ok := Clean(c)
	if !ok || !slices.Equal(room, []int{3, 1, 1, 2, 99, 98}) {
		t.Error(out, ok, room)
	}
	sorted := []int{-1, 2, 3}
	if out, _ = Clean(sorted); &out[0] == &sorted[0] {
		t.Error("Clean tells its argument's own memory")
	}
	a, b := []int{1, 2, 77, 78, 79}[:2], []int{-1, 4, 66}[:2]
	if out, ok = Resolve(a, b, 1); !ok || !slices.Equal(out, []int{2, 4}) {
		t.Error(out, ok)
	}
	if !slices.Equal(a[:5], []int{1, 2, 77, 78, 79}) || !slices.Equal(b[:3], []int{-1, 4, 66}) {
		t.Error(a[:5], b[:3])
	}
	l, is := [][]int{{2, -1, 2}, []int{3, -2, 55}[:2]}, []int{1, 1, 44}[:2]
	if out, ok = Spread(l, is...); !ok || !slices.Equal(out, []int{1, 2, 3}) {
		t.Error(out, ok)
	}
	if !Holds(l, 2, 3) || Check(l) != api.OK || Most(l) != 3 {
		t.Error("holds, check, most")
	}
	if s, e := Show(l); s != "2 -1 2 0\n3 -2 0\n" || e != api.OK {
		t.Error(s, e)
	}
	if !slices.Equal(l[0], []int{2, -1, 2}) || !slices.Equal(l[1][:3], []int{3, -2, 55}) || !slices.Equal(is[:3], []int{1, 1, 44}) {
		t.Error(l, is[:3])
	}
	only := []int{-3, 4}
	if out, _ = Spread(nil, only...); &out[0] == &only[0] {
		t.Error("Spread tells its argument's own memory")
	}
}

// each asks of all lists of at most so many of these numbers.
func each(of []int, long int, ask func([]int)) {
	var with func(c []int)
	with = func(c []int) {
		ask(c)
		if len(c) == long {
			return
		}
		for _, n := range of {
			with(append(slices.Clone(c), n))
		}
	}
	with(nil)
}

// numbers is some literals of the first variables.
func numbers(r *rand.Rand, vars, many int) []int {
	var l []int
	for range many {
		n := 1 + r.IntN(vars)
		if r.IntN(2) == 0 {
			n = -n
		}
		l = append(l, n)
	}
	return l
}

// made is clauses of at most so many literals.
func made(r *rand.Rand, vars, many, long int) [][]int {
	var l [][]int
	for range many {
		l = append(l, numbers(r, vars, 1+r.IntN(long)))
	}
	return l
}

// assignments is all ways to make the first variables true or false.
func assignments(vars int) [][]int {
	l := [][]int{nil}
	for v := 1; v <= vars; v++ {
		var next [][]int
		for _, is := range l {
			next = append(next, append(slices.Clone(is), v), append(slices.Clone(is), -v))
		}
		l = next
	}
	return l
}
