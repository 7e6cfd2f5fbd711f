package allsat

import (
	"math"
	"math/rand/v2"
	"slices"
	"testing"

	"skua/api"
	"skua/sat"
)

// P8.1: ways, in order, and the edges of clauses and variables.
func TestAll(t *testing.T) {
	const last = api.MaxLits
	for _, x := range []struct {
		l    [][]int
		vars []int
		want [][]int
	}{
		{[][]int{{1, 2}}, []int{1, 2}, [][]int{{1, -2}, {-1, 2}, {1, 2}}},
		{[][]int{{1, 2}}, []int{1}, [][]int{{-1}, {1}}},
		{[][]int{{1, 2}, {-2}}, []int{1}, [][]int{{1}}},
		{[][]int{{1, 2}, {-2}}, []int{2}, [][]int{{-2}}},
		{[][]int{{1, -2}, {-1, 2}}, []int{1, 2}, [][]int{{-1, -2}, {1, 2}}},
		{[][]int{{1, 2, 3}, {-1, -2}, {-1, -3}, {-2, -3}}, []int{1, 2, 3}, [][]int{{1, -2, -3}, {-1, 2, -3}, {-1, -2, 3}}},
		{[][]int{{-1, 9}, {-9, 3}}, []int{1, 3}, [][]int{{-1, -3}, {-1, 3}, {1, 3}}},

		// No variables: one way, if the clauses can hold.
		{nil, nil, [][]int{{}}}, {[][]int{}, []int{}, [][]int{{}}}, {[][]int{{1, 2}, {-1}}, nil, [][]int{{}}}, {[][]int{{1}, {-1}}, nil, nil}, {[][]int{{}}, nil, nil},

		// No clauses, or none about these variables.
		{nil, []int{1}, [][]int{{-1}, {1}}}, {nil, []int{3, 7}, [][]int{{-3, -7}, {3, -7}, {-3, 7}, {3, 7}}}, {[][]int{{1, 2}}, []int{5, last}, [][]int{{-5, -last}, {5, -last}, {-5, last}, {5, last}}},
		{[][]int{{-4}, {4, 2}}, []int{3}, [][]int{{-3}, {3}}},

		// They can't hold.
		{[][]int{{}}, []int{1}, nil}, {[][]int{{1}, {}}, []int{1, 2}, nil}, {[][]int{{1}, {-1}}, []int{1, 2}, nil}, {[][]int{{3}, {-3, 4}, {-4}}, []int{1, 2}, nil},

		// Literals twice, and both ways.
		{[][]int{{1, 1}, {-2, -2}}, []int{1, 2}, [][]int{{1, -2}}}, {[][]int{{1, -1}}, []int{1}, [][]int{{-1}, {1}}}, {[][]int{{1, -1, 2}, {-3, 3}}, []int{2, 3}, [][]int{{-2, -3}, {2, -3}, {-2, 3}, {2, 3}}},

		// The greatest variables.
		{[][]int{{last}}, []int{last}, [][]int{{last}}}, {[][]int{{-last, 1}, {last, -1}}, []int{1, last}, [][]int{{-1, -last}, {1, last}}}, {[][]int{{last - 1, last}, {-last}}, []int{1, last - 1}, [][]int{{-1, last - 1}, {1, last - 1}}},
	} {
		for _, most := range []int{0, -1, math.MinInt, len(x.want) + 1, math.MaxInt} {
			if a, e := All(x.l, x.vars, most); e != api.OK || !same(a, x.want) {
				t.Errorf("%v of %v, at most %d: %v, %d, want %v", x.l, x.vars, most, a, e, x.want)
			}
		}
	}
}

// badVars is lists of variables as ways don't have them.
func badVars() [][]int {
	l := [][]int{{2, 1}, {1, 1}, {-1}, {1, -2}, {-2, -1}, {-1, 2}, {1, 3, 2}, {1, 2, 2}, {0, 1}, {1, 0}, first(21), first(1000), make([]int, 21)}
	for _, n := range wrong {
		l = append(l, []int{n}, []int{1, n}, []int{1, 2, n, 3})
	}
	return l
}

// P8.1: a number that is no literal, wherever it stands, and variables that aren't as ways have them.
func TestAllRefuses(t *testing.T) {
	refused := func(l [][]int, vars []int) {
		t.Helper()
		for _, most := range []int{-1, 0, 1, 100} {
			if a, e := All(l, vars, most); e != api.ErrCnfLit || a != nil {
				t.Errorf("%v of %v: %v, %d", l, vars, a, e)
			}
		}
	}
	for _, l := range [][][]int{nil, {{1, 2}}, {{}}, {{1}, {-1}}} {
		for _, vars := range badVars() {
			refused(l, vars)
		}
		for _, n := range wrong {
			for _, vars := range [][]int{nil, {1}, {1, 2}, {7, 8}} {
				refused(append(slices.Clone(l), []int{n}), vars)
				refused(append(slices.Clone(l), []int{1, -2, n, 3}), vars)
				refused(append([][]int{{n, n}}, l...), vars)
			}
		}
	}
}

// seen is worlds as some variables are in them, each once, in order.
func seen(worlds [][]int, vars []int) [][]int {
	var out [][]int
	for n := range 1 << len(vars) {
		if is := signed(vars, n); can(worlds, is) {
			out = append(out, is)
		}
	}
	return out
}

// P8.1, P8.5: clauses made by chance, of variables near to and far from one another, seen from some of these and of others: as all worlds tell.
func TestAllAsWanted(t *testing.T) {
	r := rand.New(rand.NewPCG(8, 1))
	none, whole, between := 0, 0, 0
	for range 3000 {
		vars := some(r, 1+r.IntN(8))
		l := made(r, vars, r.IntN(4*len(vars)), 1+r.IntN(3))
		of := part(r, vars, 2)
		if r.IntN(4) == 0 {
			of = slices.Compact(slices.Sorted(slices.Values(append(of, 1+r.IntN(12), 1+r.IntN(12)))))
		}
		want := seen(withOthers(worlds(l, vars), vars, of), of)
		a, e := All(l, of, 0)
		if e != api.OK || !same(a, want) {
			t.Fatalf("%v of %v: %v, %d, want %v", l, of, a, e, want)
		}
		most := 1 + r.IntN(len(want)+2)
		b, e := All(l, of, most)
		if e != api.OK || !isSome(b, want, min(most, len(want))) {
			t.Fatalf("%v of %v, at most %d: %v, %d, of %v", l, of, most, b, e, want)
		}
		switch len(a) {
		case 0:
			none++
		case 1 << len(of):
			whole++
		default:
			between++
		}
	}
	if none < 300 || whole < 300 || between < 500 {
		t.Error(none, whole, between)
	}
}

// withOthers is worlds in which variables that none of them tells are somehow, too.
func withOthers(worlds [][]int, vars, of []int) [][]int {
	for _, v := range of {
		if slices.Contains(vars, v) {
			continue
		}
		var more [][]int
		for _, w := range worlds {
			more = append(more, append(slices.Clone(w), v), append(slices.Clone(w), -v))
		}
		worlds = more
	}
	return worlds
}

// isSome is whether ways are so many of others, each once, in the same order.
func isSome(l, of [][]int, many int) bool {
	last := -1
	for _, way := range l {
		at := slices.IndexFunc(of, func(w []int) bool { return slices.Equal(w, way) })
		if at <= last {
			return false
		}
		last = at
	}
	return len(l) == many
}

// P8.1: at most so many ways, for any number of them.
func TestAllMost(t *testing.T) {
	for _, l := range [][][]int{nil, {{1, 2, 3}}, parity(9, 1, 2, 3, 4), {{1, -2}, {2, -3}, {3, -4}}, {{1}}, {{4}}, {{-1, 7}, {-7, 2}, {8, 3}}} {
		whole, e := All(l, first(4), 0)
		if e != api.OK || len(whole) < 2 {
			t.Fatal(l, whole, e)
		}
		for most := 1; most <= 20; most++ {
			if a, e := All(l, first(4), most); e != api.OK || !isSome(a, whole, min(most, len(whole))) {
				t.Errorf("%v, at most %d: %v, %d", l, most, a, e)
			}
		}
	}
	for most := 1; most < 3; most++ {
		if a, e := All(nil, nil, most); e != api.OK || !same(a, [][]int{{}}) {
			t.Error(most, a, e)
		}
		if a, e := All([][]int{{}}, nil, most); e != api.OK || a != nil {
			t.Error(most, a, e)
		}
	}
}

// P8.1: as many variables as there may be, and as many ways as these have.
func TestAllMany(t *testing.T) {
	vars := first(20)
	odd, last := chain(20)
	for _, x := range []struct {
		l    [][]int
		most int
		want int
	}{
		{nil, 0, 1 << 20}, {[][]int{vars}, 0, 1<<20 - 1}, {[][]int{{1}, {-20}}, 0, 1 << 18}, {[][]int{{1, 20}, {10, 11}, {-2}}, 0, 9 << 15}, {[][]int{vars, {-1, 50}, {-20, -50}}, 0, 3<<18 - 1},
		{append(slices.Clone(odd), []int{last}, []int{-20, 1}, []int{-19, 2}, []int{-18, 3}, []int{17}, []int{16}, []int{-15}, []int{14}), 0, 27 << 9},
		{nil, 1 << 17, 1 << 17}, {nil, 1, 1}, {append(slices.Clone(odd), []int{last}), 1000, 1000},
	} {
		a, e := All(x.l, vars, x.most)
		if e != api.OK || len(a) != x.want {
			t.Errorf("%d, %d, want %d", len(a), e, x.want)
		}
		ahead := -1
		for _, way := range a {
			n := 0
			for i, p := range way {
				if p != i+1 && p != -i-1 {
					t.Fatal(way)
				}
				if p > 0 {
					n |= 1 << i
				}
			}
			if len(way) != 20 || n <= ahead {
				t.Fatal(way, n, ahead)
			}
			ahead = n
		}
	}
}

// P8.5: of clauses with many variables: the ways that are told can be gone on with, all others can't.
func TestAllGoesOn(t *testing.T) {
	r := rand.New(rand.NewPCG(8, 5))
	yes, no := 0, 0
	for range 40 {
		all := first(60)
		var l [][]int
		is := signed(all, int(r.Uint64()>>2))
		for len(l) < 225 {
			if c := numbers(r, all, 3); holds([][]int{c}, is) {
				l = append(l, c)
			}
		}
		r.Shuffle(len(all), func(i, j int) { all[i], all[j] = all[j], all[i] })
		vars := slices.Sorted(slices.Values(all[:9]))
		a, e := All(l, vars, 0)
		if e != api.OK {
			t.Fatal(e)
		}
		s := sat.New()
		for _, c := range l {
			s.Add(c...)
		}
		next := 0
		for n := range 1 << len(vars) {
			way := signed(vars, n)
			told := next < len(a) && slices.Equal(a[next], way)
			if told {
				next++
				yes++
			} else {
				no++
			}
			if b, e := s.Solve(0, way...); e != api.OK || b.Sat != told {
				t.Fatalf("%v of %v, %v: %v", l, vars, way, told)
			}
		}
		if next != len(a) {
			t.Fatalf("%v of %v: %v", l, vars, a)
		}
	}
	if yes < 1000 || no < 1000 {
		t.Error(yes, no)
	}
}
