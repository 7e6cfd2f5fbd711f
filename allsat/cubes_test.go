package allsat

import (
	"math"
	"math/rand/v2"
	"slices"
	"testing"

	"skua/api"
)

// P8.3: cubes, their order, and the edges of lengths.
func TestCubes(t *testing.T) {
	const last = api.MaxLits
	examples := [][]int{{-1, 3}, {-2, 3}}
	more := append(slices.Clone(examples), []int{-4, -5, 3})
	for _, x := range []struct {
		l         [][]int
		vars      []int
		lit, long int
		want      [][]int
	}{
		{examples, []int{1, 2}, 3, 6, [][]int{{1}, {2}}}, {examples, []int{1, 2}, 3, 1, [][]int{{1}, {2}}}, {examples, []int{1, 2}, 3, 0, nil}, {examples, []int{2}, 3, 6, [][]int{{2}}}, {examples, nil, 3, 6, nil}, {examples, []int{1, 2}, -3, 6, nil},
		{examples, []int{1, 2, 3}, 3, 6, [][]int{{1}, {2}, {3}}}, {examples, []int{1, 2, 3}, -3, 6, [][]int{{-3}}}, {examples, []int{3, 4}, -1, 6, [][]int{{-3}}}, {examples, []int{3, 4}, -2, 6, [][]int{{-3}}},
		{more, []int{1, 2, 4, 5}, 3, 9, [][]int{{1}, {2}, {4, 5}}}, {more, []int{1, 2, 4, 5}, 3, 2, [][]int{{1}, {2}, {4, 5}}}, {more, []int{1, 2, 4, 5}, 3, 1, [][]int{{1}, {2}}}, {more, []int{1, 2, 4}, 3, 2, [][]int{{1}, {2}}}, {more, []int{4, 5}, 3, 3, [][]int{{4, 5}}},

		// Implied anyhow: the empty cube alone, if cubes of no literals may be told.
		{[][]int{{3}}, []int{1}, 3, 2, [][]int{{}}}, {[][]int{{3}}, []int{1, 2, 3}, 3, 0, [][]int{{}}}, {[][]int{{3}}, nil, 3, 6, [][]int{{}}}, {[][]int{{1, 3}, {-1, 3}}, []int{1, 2}, 3, 6, [][]int{{}}}, {[][]int{{}}, []int{1, 2}, 3, 6, [][]int{{}}}, {[][]int{{1}, {-1}}, []int{1, 2}, -2, 6, [][]int{{}}}, {[][]int{{3}}, []int{1}, 3, -1, nil}, {[][]int{{}}, nil, 3, math.MinInt, nil},

		// Below no length there is any; above 6 none is told.
		{examples, []int{1, 2}, 3, -1, nil}, {examples, []int{1, 2}, 3, math.MinInt, nil}, {examples, []int{1, 2}, 3, math.MaxInt, [][]int{{1}, {2}}},
		{[][]int{{-1, -2, -3, -4, -5, -6, 9}}, first(7), 9, 5, nil}, {[][]int{{-1, -2, -3, -4, -5, -6, 9}}, first(7), 9, 6, [][]int{{1, 2, 3, 4, 5, 6}}}, {[][]int{{-1, -2, -3, -4, -5, -6, 9}}, first(7), 9, 7, [][]int{{1, 2, 3, 4, 5, 6}}},
		{[][]int{{-1, -2, -3, -4, -5, -6, -7, 9}}, first(7), 9, 6, nil}, {[][]int{{-1, -2, -3, -4, -5, -6, -7, 9}}, first(7), 9, 7, nil}, {[][]int{{-1, -2, -3, -4, -5, -6, -7, 9}}, first(7), 9, math.MaxInt, nil},

		// A cube with which the clauses can't hold implies anything.
		{[][]int{{-1}}, []int{1}, 2, 1, [][]int{{1}}}, {[][]int{{1}}, []int{1}, 2, 1, [][]int{{-1}}}, {[][]int{{1, 2}}, []int{1, 2}, 3, 6, [][]int{{-1, -2}}}, {[][]int{{1, 2}}, []int{1, 2}, -3, 2, [][]int{{-1, -2}}},

		// The literal's own variable.
		{nil, []int{1, 2}, 1, 6, [][]int{{1}}}, {nil, []int{1, 2}, -2, 6, [][]int{{-2}}}, {[][]int{{1, 2}}, []int{1, 2}, 1, 6, [][]int{{1}, {-2}}}, {nil, []int{1, 2}, 3, 6, nil}, {nil, nil, 1, 6, nil},

		// By variables first, then by signs, false ahead.
		{[][]int{{1, 9}, {-2, 9}, {3, 9}}, []int{1, 2, 3}, 9, 6, [][]int{{-1}, {2}, {-3}}},
		{parity(9, 1, 2), []int{1, 2}, 9, 6, [][]int{{-1, 2}, {1, -2}}}, {parity(9, 1, 2), []int{1, 2}, -9, 6, [][]int{{-1, -2}, {1, 2}}},
		{[][]int{{-1, -3, 9}, {1, 2, 9}, {-2, 3, 9}, {-4, 9}}, first(4), 9, 6, [][]int{{4}, {-1, -2}, {1, 2}, {-1, -3}, {1, 3}, {-2, 3}, {2, -3}}},
		{parity(9, 1, 2, 3), []int{1, 2, 3}, 9, 3, [][]int{{-1, -2, 3}, {-1, 2, -3}, {1, -2, -3}, {1, 2, 3}}},
		{[][]int{{-10, -20, 9}, {-10, 30, 9}, {-15, 20, 9}, {-10, 20, 40, 9}}, []int{10, 15, 20, 30, 40}, 9, 6, [][]int{{10, 15}, {10, 20}, {10, -30}, {10, -40}, {15, -20}}},

		// The greatest variables.
		{[][]int{{-last, 1 - last}}, []int{last - 1, last}, -last, 6, [][]int{{last - 1}, {-last}}}, {[][]int{{-last, 3}}, []int{1, last}, 3, 6, [][]int{{last}}},
	} {
		if c, e := Cubes(x.l, x.vars, x.lit, x.long); e != api.OK || !same(c, x.want) {
			t.Errorf("%v of %v for %d, at most %d: %v, %d, want %v", x.l, x.vars, x.lit, x.long, c, e, x.want)
		}
	}
}

// P8.3: a number that is no literal, wherever it stands, and variables that aren't as ways have them.
func TestCubesRefuses(t *testing.T) {
	refused := func(l [][]int, vars []int, lit int) {
		t.Helper()
		for _, long := range []int{math.MinInt, -1, 0, 1, 6, math.MaxInt} {
			if c, e := Cubes(l, vars, lit, long); e != api.ErrCnfLit || c != nil {
				t.Errorf("%v of %v for %d, at most %d: %v, %d", l, vars, lit, long, c, e)
			}
		}
	}
	for _, l := range [][][]int{nil, {{1, 2}}, {{}}, {{1}, {-1}}} {
		for _, vars := range badVars() {
			refused(l, vars, 1)
		}
		for _, n := range wrong {
			for _, vars := range [][]int{nil, {1}, {1, 2}, {7, 8}} {
				refused(l, vars, n)
				refused(append(slices.Clone(l), []int{1, n}), vars, -1)
				refused(append([][]int{{n}}, l...), vars, 2)
			}
		}
	}
}

// P8.3: clauses made by chance: all cubes are tried, one by one, by all worlds.
func TestCubesAsWanted(t *testing.T) {
	r := rand.New(rand.NewPCG(8, 3))
	var told [mostLong + 1]int
	for range 4000 {
		vars := some(r, 1+r.IntN(8))
		of, lit, most := part(r, vars, 2), numbers(r, vars, 1)[0], r.IntN(10)-1
		l := made(r, vars, r.IntN(3*len(vars)), 2+r.IntN(3))
		if r.IntN(3) > 0 {
			of = slices.DeleteFunc(slices.Clone(vars), func(v int) bool { return v == lit || v == -lit })
			l = long(r, vars, r.IntN(6*len(vars)))
		}
		w := worlds(l, vars)
		var want [][]int
		for many := 0; many <= min(most, mostLong); many++ {
			for _, c := range cubes(of, many) {
				isPart := func(d []int) bool { return within(d, c) }
				if !can(w, append(slices.Clone(c), -lit)) && !slices.ContainsFunc(want, isPart) {
					want = append(want, c)
					told[many]++
				}
			}
		}
		c, e := Cubes(l, of, lit, most)
		if e != api.OK || !same(c, want) {
			t.Fatalf("%v of %v for %d, at most %d: %v, %d, want %v", l, of, lit, most, c, e, want)
		}
		for _, is := range c {
			if ok, e := Implies(l, lit, is...); !ok || e != api.OK {
				t.Fatalf("%v: %v for %d: %v, %d", l, is, lit, ok, e)
			}
		}
	}
	if slices.Min(told[:6]) < 100 || told[6] < 20 {
		t.Error(told)
	}
}

// P8.3: as many variables as there may be, and cubes as long as they may be.
func TestCubesMany(t *testing.T) {
	vars := first(20)
	var threes, sixes [][]int
	for _, c := range subsets(vars, 3) {
		threes = append(threes, append(turned(c), 30))
	}
	for _, c := range subsets(first(11), 6) {
		sixes = append(sixes, append(turned(c), 30))
	}
	odd, last := chain(20)
	six, end := chain(6)
	seven, far := chain(7)
	for _, x := range []struct {
		l         [][]int
		vars      []int
		lit, long int
		want      int
	}{
		{nil, vars, 21, 6, 0}, {threes, vars, 30, 6, 1140}, {threes, vars, 30, 2, 0}, {threes, vars, -30, 6, 0}, {sixes, vars, 30, 6, 462}, {sixes, vars, 30, 5, 0},
		{odd, vars, last, 6, 0}, {six, first(6), end, 6, 32}, {six, vars[:6], end, 5, 0}, {seven, first(7), far, 6, 0},
	} {
		c, e := Cubes(x.l, x.vars, x.lit, x.long)
		if e != api.OK || len(c) != x.want {
			t.Errorf("%d for %d: %d, %d, want %d", len(x.l), x.lit, len(c), e, x.want)
		}
	}
	if c, e := Cubes(threes, vars, 30, 6); e != api.OK || !same(c, subsets(vars, 3)) {
		t.Error(len(c), e)
	}
	if c, e := Cubes(sixes, vars, 30, 6); e != api.OK || !same(c, subsets(first(11), 6)) {
		t.Error(len(c), e)
	}
}
