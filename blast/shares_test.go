package blast

import (
	"slices"
	"testing"
)

// Rules: what is handed in is neither changed nor kept, the spare room included; what is handed out is new, each list of it.
func TestSharesNothing(t *testing.T) {
	a := newAsked(t)
	x, y := a.variable(u8), a.variable(u8)
	sum := a.do("+", x, y)
	want, _ := a.b.Bits(sum)
	want = slices.Clone(want)
	all := copyOf(a.b.Clauses())
	spoil := func(l []int) {
		for i := range l[:cap(l)] {
			l[:cap(l)][i] = 77
		}
	}
	for range 3 {
		bits, _ := a.b.Bits(sum)
		if !slices.Equal(bits, want) {
			t.Error(bits, want)
		}
		spoil(bits)
		l := a.b.Clauses()
		if !sameClauses(l, all) {
			t.Error(l, all)
		}
		for i := range l {
			rest := copyOf(l[i+1:])
			spoil(l[i])
			if !sameClauses(l[i+1:], rest) {
				t.Fatal(i, l[i+1:], rest)
			}
		}
	}
	l := a.b.Fresh()
	if !sameClauses(l, all) {
		t.Error(l, all)
	}
	for i := range l {
		rest := copyOf(l[i+1:])
		spoil(l[i])
		if !sameClauses(l[i+1:], rest) {
			t.Fatal(i, l[i+1:], rest)
		}
	}
	// A term whose bits are those of its part has lists of its own.
	cast, _ := a.p.Cast(i8, x)
	bits, _ := a.b.Bits(cast)
	spoil(bits)
	a.ask(x)
	a.ask(cast)
	a.holds(way{0: 200, 1: 100}, way{0: 5, 1: 6})
}

func TestValueSharesNothing(t *testing.T) {
	bits, is := []int{2, -3, 4, 91, 92}[:3], []int{4, -3, 93, 94}[:2]
	if v := Value(bits, is); v != 6 {
		t.Error(v)
	}
	if !slices.Equal(bits[:5], []int{2, -3, 4, 91, 92}) || !slices.Equal(is[:4], []int{4, -3, 93, 94}) {
		t.Error(bits[:5], is[:4])
	}
}
