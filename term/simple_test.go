package term

import (
	"math"
	"testing"

	"skua/api"
)

// sides is terms of a type that simpler ones are known of beside others: variables, the edges, what is turned, casts, choices.
func sides(t *testing.T, p *Pool, x api.Type, vars []int) []int {
	t.Helper()
	l := append([]int{}, vars...)
	for _, v := range edges(x) {
		l = append(l, must(t)(p.Num(x, v)))
	}
	for _, op := range oneOps(x) {
		l = append(l, must(t)(p.Do(op, vars[0])), must(t)(p.Do(op, vars[1])))
	}
	other := api.Type{Width: 16}
	l = append(l, must(t)(p.Cast(x, must(t)(p.Cast(other, vars[0])))), must(t)(p.Cast(x, must(t)(p.Cast(boolType, vars[0])))))
	return append(l, must(t)(p.Do(pairOps(x)[2], vars[0], vars[1])))
}

// valued is what a term is where the first of two variables of a type is at its edges, the second one at its ends.
func valued(t *testing.T, p *Pool, x api.Type, f int) []uint64 {
	t.Helper()
	var l []uint64
	half := uint64(1) << (x.Width - 1)
	for _, a := range edges(x) {
		for _, b := range []uint64{0, 2*half - 1} {
			v, e := p.Eval(f, []api.Value{{Var: 0, Type: x, Num: a}, {Var: 1, Type: x, Num: b}})
			if e != api.OK {
				t.Fatal(p.Show(f), e)
			}
			l = append(l, v)
		}
	}
	return l
}

// P10.1: every operator of every type, of all pairs of numbers, variables, turned ones and others: what is made is what the operator makes of these, however simple it is; of numbers alone it is a number.
func TestEveryPair(t *testing.T) {
	for _, x := range allTypes {
		p := New()
		l := sides(t, p, x, []int{must(t)(p.Var(x, 0)), must(t)(p.Var(x, 1))})
		are := map[int][]uint64{}
		for _, f := range l {
			are[f] = valued(t, p, x, f)
		}
		for _, op := range pairOps(x) {
			for _, a := range l {
				for _, b := range l {
					f := must(t)(p.Do(op, a, b))
					for i, v := range valued(t, p, x, f) {
						if want := wantPair(x, op, are[a][i], are[b][i]); v != want {
							t.Fatalf("%s: %s %s %s: %s: %d, want %d", nameOf(x), op, p.Show(a), p.Show(b), p.Show(f), v, want)
						}
					}
					_, one := p.Const(a)
					_, two := p.Const(b)
					if _, is := p.Const(f); one && two && !is {
						t.Fatal(op, p.Show(a), p.Show(b), p.Show(f))
					}
				}
			}
		}
	}
}

// P10.1: likewise operators of one term, one behind another, and ite of all that there is.
func TestEveryTurnAndChoice(t *testing.T) {
	for _, x := range allTypes {
		p := New()
		l := sides(t, p, x, []int{must(t)(p.Var(x, 0)), must(t)(p.Var(x, 1))})
		flags := sides(t, p, boolType, []int{must(t)(p.Do("==", l[0], l[1])), must(t)(p.Cast(boolType, l[0]))})
		for _, op := range oneOps(x) {
			for _, more := range oneOps(x) {
				for _, a := range l {
					f := must(t)(p.Do(more, must(t)(p.Do(op, a))))
					got := valued(t, p, x, f)
					for i, v := range valued(t, p, x, a) {
						if want := wantTurn(x, more, wantTurn(x, op, v)); got[i] != want {
							t.Fatal(nameOf(x), more, op, p.Show(a), p.Show(f), got[i], want)
						}
					}
				}
			}
		}
		for _, c := range flags {
			asked := valued(t, p, x, c)
			for _, a := range l[:min(len(l), 12)] {
				yes := valued(t, p, x, a)
				for _, b := range l[:min(len(l), 12)] {
					no := valued(t, p, x, b)
					f := must(t)(p.Do("ite", c, a, b))
					for i, v := range valued(t, p, x, f) {
						if want := wantOp(boolType, "ite", asked[i], yes[i], no[i]); v != want {
							t.Fatal(nameOf(x), p.Show(c), p.Show(a), p.Show(b), p.Show(f), v, want)
						}
					}
				}
			}
		}
	}
}

// P10.1: casts between all types, one, two and three behind each other.
func TestEveryCast(t *testing.T) {
	for _, from := range allTypes {
		p := New()
		x := must(t)(p.Var(from, 0))
		are := edges(from)
		if from.Width == 16 {
			are = append(are, 255, 256, 127, 128, 1<<16-128, 1<<16-129, 1<<16-256)
		}
		if from.Width > 16 {
			are = append(are, 1<<8, 1<<16, 1<<16-1, 1<<15, 1<<from.Width-1<<8, 1<<31, 1<<32-1, 1<<32, math.MaxUint64>>(64-from.Width)-1<<15)
		}
		for _, by := range allTypes {
			one := must(t)(p.Cast(by, x))
			for _, to := range allTypes {
				two := must(t)(p.Cast(to, one))
				if p.Type(two) != to || p.Type(one) != by {
					t.Fatal(p.Show(two))
				}
				for _, last := range allTypes {
					three := must(t)(p.Cast(last, two))
					for _, v := range are {
						v &= math.MaxUint64 >> (64 - from.Width)
						want := wantCast(by, to, wantCast(from, by, v))
						got, e := p.Eval(two, []api.Value{{Var: 0, Type: from, Num: v}})
						if got != want || e != api.OK {
							t.Fatal(nameOf(from), nameOf(by), nameOf(to), p.Show(two), v, got, want)
						}
						got, e = p.Eval(three, []api.Value{{Var: 0, Type: from, Num: v}})
						if want = wantCast(to, last, want); got != want || e != api.OK {
							t.Fatal(nameOf(from), nameOf(by), nameOf(to), nameOf(last), p.Show(three), v, got, want)
						}
						num := must(t)(p.Cast(last, must(t)(p.Cast(to, must(t)(p.Cast(by, must(t)(p.Num(from, v))))))))
						if is, ok := p.Const(num); is != want || !ok {
							t.Fatal(nameOf(from), nameOf(by), nameOf(to), nameOf(last), p.Show(num), v, want)
						}
					}
				}
			}
		}
	}
}

// P10.1: simpler terms that those who make them may count on (which ones are made is free: these are).
func TestSimpler(t *testing.T) {
	p := New()
	x, y, b, c := must(t)(p.Var(u8, 0)), must(t)(p.Var(u8, 1)), must(t)(p.Var(boolType, 2)), must(t)(p.Var(boolType, 3))
	s := must(t)(p.Var(i8, 4))
	num := func(x api.Type, v uint64) int { return must(t)(p.Num(x, v)) }
	do := func(op string, l ...int) int { return must(t)(p.Do(op, l...)) }
	for i, z := range []struct {
		f    int
		want string
	}{
		{do("+", x, num(u8, 0)), "v0:u8"}, {do("+", num(u8, 0), x), "v0:u8"}, {do("-", x, num(u8, 0)), "v0:u8"}, {do("*", num(u8, 1), x), "v0:u8"}, {do("*", x, num(u8, 0)), "0:u8"},
		{do("/", x, num(u8, 1)), "v0:u8"}, {do("/", x, num(u8, 0)), "0:u8"}, {do("/", num(u8, 0), x), "0:u8"}, {do("%", x, num(u8, 1)), "0:u8"}, {do("%", x, x), "0:u8"}, {do("/", x, x), "(/ v0:u8 v0:u8)"},
		{do("&", x, num(u8, 255)), "v0:u8"}, {do("&", x, num(u8, 0)), "0:u8"}, {do("|", num(u8, 255), x), "255:u8"}, {do("|", x, x), "v0:u8"}, {do("^", x, x), "0:u8"}, {do("-", x, x), "0:u8"},
		{do("<<", x, num(u8, 8)), "0:u8"}, {do("<<", x, num(u8, 7)), "(<< v0:u8 7:u8)"}, {do(">>", x, num(u8, 8)), "0:u8"}, {do(">>", s, num(i8, 8)), "(>> v4:i8 8:i8)"}, {do("<<", num(u8, 0), x), "0:u8"},
		{do("==", x, x), "1:bool"}, {do("<", x, x), "0:bool"}, {do("<=", x, x), "1:bool"}, {do("!=", x, x), "0:bool"}, {do(">", x, x), "0:bool"}, {do(">=", x, x), "1:bool"}, {do("==", x, y), "(== v0:u8 v1:u8)"},
		{do("<", x, num(u8, 0)), "0:bool"}, {do(">=", x, num(u8, 0)), "1:bool"}, {do("<=", x, num(u8, 255)), "1:bool"}, {do(">", num(u8, 0), x), "0:bool"}, {do("<", x, num(u8, 1)), "(< v0:u8 1:u8)"},
		{do("<", s, num(i8, 128)), "0:bool"}, {do("<", s, num(i8, 0)), "(< v4:i8 0:i8)"}, {do(">", s, num(i8, 127)), "0:bool"}, {do("<=", num(i8, 128), s), "1:bool"}, {do("<=", s, num(i8, 255)), "(<= v4:i8 255:i8)"},
		{do("u!", do("u!", b)), "v2:bool"}, {do("u-", do("u-", x)), "v0:u8"}, {do("u~", do("u~", x)), "v0:u8"}, {do("u~", do("u-", x)), "(u~ (u- v0:u8))"},
		{do("&&", b, num(boolType, 1)), "v2:bool"}, {do("&&", num(boolType, 0), b), "0:bool"}, {do("||", b, num(boolType, 1)), "1:bool"}, {do("&&", b, do("u!", b)), "0:bool"}, {do("||", do("u!", b), b), "1:bool"}, {do("&&", b, b), "v2:bool"},
		{do("==", b, num(boolType, 1)), "v2:bool"}, {do("==", num(boolType, 0), b), "(u! v2:bool)"}, {do("!=", b, num(boolType, 1)), "(u! v2:bool)"}, {do("^", b, num(boolType, 1)), "(u! v2:bool)"}, {do("&&", b, c), "(&& v2:bool v3:bool)"},
		{do("ite", num(boolType, 1), x, y), "v0:u8"}, {do("ite", num(boolType, 0), x, y), "v1:u8"}, {do("ite", b, x, x), "v0:u8"}, {do("ite", do("u!", b), x, y), "(ite v2:bool v1:u8 v0:u8)"},
		{do("ite", b, num(boolType, 1), num(boolType, 0)), "v2:bool"}, {do("ite", b, num(boolType, 0), num(boolType, 1)), "(u! v2:bool)"}, {do("ite", b, num(u8, 1), num(u8, 0)), "(ite v2:bool 1:u8 0:u8)"},
		{must(t)(p.Cast(u8, x)), "v0:u8"}, {must(t)(p.Cast(u8, must(t)(p.Cast(i32, x)))), "v0:u8"}, {must(t)(p.Cast(i16, must(t)(p.Cast(i8, x)))), "(i16 (i8 v0:u8))"}, {must(t)(p.Cast(boolType, must(t)(p.Cast(i8, x)))), "(bool v0:u8)"},
		{must(t)(p.Cast(i32, must(t)(p.Cast(i16, x)))), "(i32 v0:u8)"}, {must(t)(p.Cast(i16, must(t)(p.Cast(u16, s)))), "(i16 v4:i8)"}, {must(t)(p.Cast(u32, must(t)(p.Cast(u16, s)))), "(u32 (u16 v4:i8))"}, {must(t)(p.Cast(u8, must(t)(p.Cast(boolType, x)))), "(u8 (bool v0:u8))"},
	} {
		if p.Show(z.f) != z.want {
			t.Error(i, p.Show(z.f), z.want)
		}
	}
}
