package cnf

import (
	"math"
	"math/rand/v2"
	"regexp"
	"slices"
	"strconv"
	"strings"
	"testing"

	"skua/api"
)

// P6.4: Show, and what it tells is read again.
func TestShow(t *testing.T) {
	for _, x := range []struct {
		l    [][]int
		want string
	}{
		{nil, ""}, {[][]int{}, ""}, {[][]int{nil}, "0\n"}, {[][]int{{}, {}}, "0\n0\n"},
		{[][]int{{1, -2}, {2, 3}}, "1 -2 0\n2 3 0\n"}, {[][]int{{1, -2}, {}, {1048576}}, "1 -2 0\n0\n1048576 0\n"}, {[][]int{{-1048576, 10, 10, -10}}, "-1048576 10 10 -10 0\n"},
		{[][]int{{3, 2, 1}}, "3 2 1 0\n"}, {[][]int{{100, 20}, {1}}, "100 20 0\n1 0\n"},
	} {
		s, e := Show(x.l)
		if s != x.want || e != api.OK {
			t.Errorf("%v: %q, %d, want %q", x.l, s, e, x.want)
		}
		if l, e := Read(x.want); !slices.EqualFunc(l, x.l, slices.Equal) || e != api.OK {
			t.Errorf("%q: %v, %d, want %v", x.want, l, e, x.l)
		}
	}
	for _, l := range [][][]int{{{0}}, {{1}, {0}}, {{1, 0, 2}}, {{1<<20 + 1}}, {{-1<<20 - 1}}, {{math.MinInt}}, {{}, {math.MaxInt}}} {
		if s, e := Show(l); s != "" || e != api.ErrCnfLit {
			t.Errorf("%v: %q, %d", l, s, e)
		}
	}
}

// P6.4: texts that are none's.
func TestReadRefuses(t *testing.T) {
	for _, s := range []string{
		"0", "1 0", "1\n", "1 \n", "1 2\n", "\n", " \n", " ", "0\n\n", "\n0\n", "0\n0", "1 0\n2 0", "1 0\n2\n", "1 0 2\n", "1 0 0\n", "0 0\n", "1 0 2 0\n",
		"01 0\n", "00\n", "00 0\n", "-0 0\n", "-01 0\n", "1 00\n", "1 -0\n", "-0\n", "+1 0\n", "--1 0\n", "- 0\n", "-\n", "1- 0\n", "10\n", "1 10\n", "-10\n",
		"1  0\n", " 1 0\n", " 0\n", "1 0 \n", "0 \n", "1\t0\n", "1 0\r\n", "1 0\n ", "1\n0\n", "1 \n0\n", "1,2 0\n", "1 0\n\x00", "\x000\n", "1 0\x00\n",
		"1048577 0\n", "-1048577 0\n", "9223372036854775808 0\n", "-9223372036854775808 0\n", "18446744073709551617 0\n", "99999999999999999999 0\n", strings.Repeat("1", 10000) + " 0\n", strings.Repeat("0", 10000) + "1 0\n",
		"x 0\n", "0x1 0\n", "1_0 0\n", "1.0 0\n", "1e1 0\n", "٣ 0\n", "−1 0\n", "1\u00a00\n", "é", "\xff", "c 1 0\n", "p cnf 1 1\n1 0\n", "1 0 # \n", "1 0\n-", "1 0\n1", "1 0\n1 ",
	} {
		if l, e := Read(s); len(l) != 0 || e != api.ErrCnfForm {
			t.Errorf("%.60q: %v, %d", s, l, e)
		}
	}
}

// P6.4: all short texts of a few bytes.
func TestReadAsWanted(t *testing.T) {
	form := regexp.MustCompile(`\A((-?[1-9][0-9]* )*0\n)*\z`)
	const bytes = "012- \n"
	right := 0
	var with func(s string)
	with = func(s string) {
		l, e := Read(s)
		want := api.ErrCnfForm
		if form.MatchString(s) {
			want = api.OK
			right++
		}
		if e != want || e != api.OK && len(l) != 0 {
			t.Fatalf("%q: %v, %d", s, l, e)
		}
		if e == api.OK {
			if again, e := Show(l); again != s || e != api.OK {
				t.Fatalf("%q: %v, %q", s, l, again)
			}
		}
		if len(s) == 7 {
			return
		}
		for i := range len(bytes) {
			with(s + bytes[i:i+1])
		}
	}
	with("")
	if right < 60 {
		t.Error(right)
	}
}

// P6.4: clauses made by chance, shown and read, and their texts with a byte changed.
func TestReadShown(t *testing.T) {
	r := rand.New(rand.NewPCG(6, 4))
	for range 3000 {
		l := made(r, []int{1, 9, 10, 1000, api.MaxLits}[r.IntN(5)], r.IntN(6), 5)
		var lines []string
		for _, c := range l {
			for _, n := range c {
				lines = append(lines, strconv.Itoa(n)+" ")
			}
			lines = append(lines, "0\n")
		}
		want := strings.Join(lines, "")
		s, e := Show(l)
		if s != want || e != api.OK {
			t.Fatalf("%v: %q, %d", l, s, e)
		}
		if again, e := Read(s); !slices.EqualFunc(again, l, slices.Equal) || e != api.OK {
			t.Fatalf("%q: %v, %d", s, again, e)
		}
		if s == "" {
			continue
		}
		at := r.IntN(len(s))
		other := s[:at] + string("0123456789- \nx"[r.IntN(14)]) + s[at+r.IntN(2):]
		if again, e := Read(other); e == api.OK {
			if shown, _ := Show(again); shown != other {
				t.Fatalf("%q: %v, %q", other, again, shown)
			}
		} else if len(again) != 0 || e != api.ErrCnfForm {
			t.Fatalf("%q: %v, %d", other, again, e)
		}
	}
}

// Rules: no two clauses of an answer share memory.
func TestReadSharesNothing(t *testing.T) {
	l, e := Read("1 2 0\n0\n3 0\n4 5 6 0\n")
	if e != api.OK || len(l) != 4 {
		t.Fatal(l, e)
	}
	for i := range l {
		_ = append(l[i], 99, 98, 97, 96)
	}
	if !slices.Equal(l[0], []int{1, 2}) || len(l[1]) != 0 || !slices.Equal(l[2], []int{3}) || !slices.Equal(l[3], []int{4, 5, 6}) {
		t.Error(l)
	}
}
