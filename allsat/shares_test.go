package allsat

import (
	"reflect"
	"slices"
	"testing"

	"skua/api"
)

// spare is a list with other numbers in its spare room.
func spare(l ...int) []int { return append(l, 91, 92, 93)[:len(l)] }

// whole is lists with what stands in their spare room.
func whole(l [][]int) [][]int {
	var out [][]int
	for _, c := range l[:cap(l)] {
		out = append(out, slices.Clone(c[:cap(c)]))
	}
	return out
}

// apart is whether no list changes when another one of an answer is written to, or grows.
func apart(l [][]int) bool {
	for i, a := range l {
		others := whole(slices.Delete(slices.Clone(l), i, i+1))
		a = append(a, 77)
		for j := range a {
			a[j] = 78
		}
		a = a[:cap(a)]
		a[len(a)-1] = 79
		if !same(whole(slices.Delete(slices.Clone(l), i, i+1)), others) {
			return false
		}
	}
	return true
}

// Rules: what is handed in is neither changed nor kept, the spare room included; what is handed out is new.
func TestSharesNothing(t *testing.T) {
	l := [][]int{spare(3, -1, 3), spare(-2, -4, 3), spare(1, -1), spare(5, 6), {94, 95}}[:4]
	vars, is := spare(1, 2, 3, 4), spare(4, 1, -3, 2, 4)
	clauses, room, others := whole(l), whole([][]int{vars}), whole([][]int{is})
	unchanged := func() {
		t.Helper()
		if !same(whole(l), clauses) || !same(whole([][]int{vars}), room) || !same(whole([][]int{is}), others) {
			t.Fatal(whole(l), whole([][]int{vars}), whole([][]int{is}))
		}
	}
	for range 2 {
		a, e := All(l, vars, 0)
		if want := seen(worlds(l, first(6)), vars); e != api.OK || !same(a, want) || !apart(a) {
			t.Error(a, e, want)
		}
		unchanged()
		c, e := Cubes(l, vars, 3, 6)
		if e != api.OK || !same(c, [][]int{{1}, {3}, {2, 4}}) || !apart(c) {
			t.Error(c, e)
		}
		unchanged()
		if ok, e := Implies(l, 3, is...); !ok || e != api.OK {
			t.Error(ok, e)
		}
		unchanged()
		m, ok, e := Least(l, is...)
		if !ok || e != api.OK || !slices.Equal(m, []int{-3, 1}) && !slices.Equal(m, []int{-3, 2, 4}) {
			t.Error(m, ok, e)
		}
		for i := range m {
			m[i] = 90
		}
		unchanged()
	}
}

// Rules: the same is answered each time.
func TestSame(t *testing.T) {
	odd, last := chain(6)
	l := append(odd, []int{-1, -9, 20}, []int{9, 2, 30}, []int{-3, 30, 20})
	vars := append(first(6), 20, 30)
	ways, _ := All(l, vars, 50)
	shortest, _ := Cubes(l, vars, last, 6)
	least, _, _ := Least(l, 1, 2, 3, 4, 5, 6, last, -20, -30, 9)
	if len(ways) != 50 || len(shortest) < 32 || len(least) < 2 {
		t.Fatal(len(ways), len(shortest), least)
	}
	for range 5 {
		a, _ := All(l, vars, 50)
		c, _ := Cubes(l, vars, last, 6)
		m, _, _ := Least(l, 1, 2, 3, 4, 5, 6, last, -20, -30, 9)
		if !reflect.DeepEqual(a, ways) || !reflect.DeepEqual(c, shortest) || !slices.Equal(m, least) {
			t.Fatal(a, c, m)
		}
	}
}
