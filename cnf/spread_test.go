package cnf

import (
	"math"
	"math/rand/v2"
	"slices"
	"testing"
)

// P6.2: Spread.
func TestSpread(t *testing.T) {
	l := [][]int{{1, -2}, {2, 3}}
	for _, x := range []struct {
		l    [][]int
		is   []int
		want []int
		ok   bool
	}{
		{nil, nil, nil, true}, {nil, []int{2, -1, 2}, []int{-1, 2}, true}, {[][]int{}, []int{7}, []int{7}, true},
		{l, []int{-1}, []int{-2, -1, 3}, true}, {l, nil, nil, true}, {l, []int{1}, []int{1}, true}, {l, []int{2}, []int{1, 2}, true}, {l, []int{-3}, []int{-3, 1, 2}, true}, {l, []int{-3, 9}, []int{-3, 1, 2, 9}, true}, {l, []int{-1, -3}, nil, false}, {l, []int{-1, 2}, nil, false},

		{[][]int{{}}, nil, nil, false}, {[][]int{{}}, []int{1}, nil, false}, {[][]int{{1}, {}}, nil, nil, false}, {[][]int{nil, {1}}, nil, nil, false},
		{nil, []int{1, -1}, nil, false}, {nil, []int{-1, 2, 1}, nil, false}, {l, []int{5, -5}, nil, false}, {nil, []int{1, 1}, []int{1}, true},
		{[][]int{{1}}, nil, []int{1}, true}, {[][]int{{-1}}, nil, []int{-1}, true}, {[][]int{{1}, {-1}}, nil, nil, false}, {[][]int{{1}}, []int{-1}, nil, false}, {[][]int{{1}}, []int{1}, []int{1}, true}, {[][]int{{1}, {1}}, nil, []int{1}, true},

		// The same literal twice is one.
		{[][]int{{1, 1}}, nil, []int{1}, true}, {[][]int{{1, 1}, {-1, 2}, {-2, -1, 3}}, nil, []int{1, 2, 3}, true}, {[][]int{{2, 1, 2, 1}}, []int{-2}, []int{-2, 1}, true}, {[][]int{{-1, -1}, {1, 1}}, nil, nil, false}, {[][]int{{1, 2, 1}}, nil, nil, true},
		// A variable both ways leaves two that aren't false, or has one that is true.
		{[][]int{{1, -1}}, nil, nil, true}, {[][]int{{1, -1}}, []int{1}, []int{1}, true}, {[][]int{{1, -1, 2}}, []int{-2}, []int{-2}, true}, {[][]int{{1, -1, 2}}, []int{-1}, []int{-1}, true}, {[][]int{{2, 1, -1, 2}, {3}}, []int{-2}, []int{-2, 3}, true},
		// A literal that is true tells nothing of the others.
		{[][]int{{1, 2}}, []int{1}, []int{1}, true}, {[][]int{{1, 2, 3}}, []int{-2, 1}, []int{-2, 1}, true}, {[][]int{{1, 2, 3}}, []int{-2}, []int{-2}, true}, {[][]int{{1, 2, 3}}, []int{-2, -1}, []int{-2, -1, 3}, true}, {[][]int{{1, 2, 3}}, []int{-2, -1, -3}, nil, false},
		// What follows comes to what follows from it, ahead and behind.
		{[][]int{{-1, 2}, {-2, 3}, {-3, 4}}, []int{1}, []int{1, 2, 3, 4}, true}, {[][]int{{-3, 4}, {-2, 3}, {-1, 2}}, []int{1}, []int{1, 2, 3, 4}, true}, {[][]int{{-3, 4}, {-2, 3}, {-1, 2}}, []int{-4}, []int{-4, -3, -2, -1}, true}, {[][]int{{-3, 4}, {-2, 3}, {-1, 2}}, []int{1, -4}, nil, false},
		{[][]int{{-1, -2, 3}, {-1, 2}, {-3, -1}}, []int{1}, nil, false}, {[][]int{{-1, -2, 3}, {-1, 2}, {-3, -1}}, nil, nil, true}, {[][]int{{1, 2}, {1, -2}, {-1, 2}, {-1, -2}}, nil, nil, true}, {[][]int{{1, 2}, {1, -2}, {-1, 2}, {-1, -2}}, []int{1}, nil, false},
		{[][]int{{-7}, {7, 8}, {7, 8, 9}, {-8, 7, 10}}, nil, []int{-7, 8, 10}, true},
		{[][]int{{1 << 20, -1 << 19}}, []int{1 << 19}, []int{1 << 19, 1 << 20}, true},
	} {
		if a, ok := Spread(x.l, x.is...); !slices.Equal(a, x.want) || ok != x.ok {
			t.Errorf("%v with %v: %v, %v, want %v, %v", x.l, x.is, a, ok, x.want, x.ok)
		}
	}
}

// P1: Spread, of numbers that are no literals: one that is its own other way is never false.
func TestSpreadOfOthers(t *testing.T) {
	const top, low = math.MaxInt, math.MinInt
	for _, x := range []struct {
		l    [][]int
		is   []int
		want []int
		ok   bool
	}{
		{[][]int{{0}}, nil, []int{0}, true}, {nil, []int{0}, []int{0}, true}, {[][]int{{0}, {0, 1}}, []int{0}, []int{0}, true}, {[][]int{{0, 1}}, []int{-1}, []int{-1, 0}, true},
		{[][]int{{low}}, []int{low}, []int{low}, true}, {[][]int{{low}, {top}}, nil, []int{low, top}, true}, {[][]int{{-top}, {top}}, nil, nil, false}, {[][]int{{1 << 40, 1}}, []int{-1 << 40}, []int{-1 << 40, 1}, true},
	} {
		if a, ok := Spread(x.l, x.is...); !slices.Equal(a, x.want) || ok != x.ok {
			t.Errorf("%v with %v: %v, %v, want %v, %v", x.l, x.is, a, ok, x.want, x.ok)
		}
	}
}

// wantSpread goes by the words of P6.2, and takes the clauses in any order.
func wantSpread(r *rand.Rand, l [][]int, is []int, vars int) ([]int, bool) {
	truth := slices.Clone(is)
	for _, n := range is {
		if slices.Contains(is, -n) {
			return nil, false
		}
	}
	for more := true; more; {
		more = false
		for _, i := range r.Perm(len(l)) {
			var left []int
			one := false
			for n := -vars; n <= vars; n++ {
				if slices.Contains(l[i], n) && !slices.Contains(truth, -n) {
					left = append(left, n)
				}
				one = one || slices.Contains(l[i], n) && slices.Contains(truth, n)
			}
			if len(left) == 0 {
				return nil, false
			}
			if !one && len(left) == 1 {
				truth, more = append(truth, left[0]), true
			}
		}
	}
	slices.Sort(truth)
	return slices.Compact(truth), true
}

// P6.2, P6.5: Spread as its words say, in any order; what it tells is true wherever clauses and literals are; where it tells nothing, nowhere.
func TestSpreadAsWanted(t *testing.T) {
	const vars = 6
	r := rand.New(rand.NewPCG(6, 22))
	all := assignments(vars)
	no, yes, more := 0, 0, 0
	for range 6000 {
		l, is := made(r, vars, r.IntN(12), 4), numbers(r, vars, r.IntN(3))
		if r.IntN(40) == 0 {
			l = append(l, nil)
		}
		want, may := wantSpread(r, l, is, vars)
		a, ok := Spread(l, is...)
		if !slices.Equal(a, want) || ok != may {
			t.Fatalf("%v with %v: %v, %v, want %v, %v", l, is, a, ok, want, may)
		}
		switch {
		case !ok:
			no++
		case len(a) > len(is):
			more++
		default:
			yes++
		}
		for _, at := range all {
			if !Holds(l, at...) || !subset(is, at) {
				continue
			}
			if !ok || !subset(a, at) {
				t.Fatalf("%v with %v: %v, %v, but %v", l, is, a, ok, at)
			}
		}
	}
	if no < 500 || yes < 500 || more < 500 {
		t.Error(no, yes, more)
	}
}

// P6.2: a long way from the last clause to the first one, and a long clause.
func TestSpreadLong(t *testing.T) {
	const many = 1 << 18
	var l [][]int
	var long []int
	for n := many; n > 1; n-- {
		l = append(l, []int{n, 1 - n})
		long = append(long, -n)
	}
	a, ok := Spread(l, 1)
	if !ok || len(a) != many || a[0] != 1 || a[many-1] != many {
		t.Fatal(len(a), ok)
	}
	if a, ok = Spread(append(l, append(long, many+1)), 1); !ok || len(a) != many+1 || a[many] != many+1 {
		t.Fatal(len(a), ok)
	}
	if a, ok = Spread(append(l, long), 1); ok || len(a) != 0 {
		t.Fatal(len(a), ok)
	}
}

// subset is whether all of some numbers are among others.
func subset(some, of []int) bool {
	for _, n := range some {
		if !slices.Contains(of, n) {
			return false
		}
	}
	return true
}
