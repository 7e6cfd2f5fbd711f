package lex

import (
	"math"
	"math/big"
	"regexp"
	"slices"
	"strings"
	"testing"

	"skua/api"
)

var (
	decimalForm = regexp.MustCompile(`^[0-9]+$`)
	hexForm     = regexp.MustCompile(`^0x[0-9a-fA-F]+$`)
)

// wantNumber is what P2.2 asks of Number, in whole numbers without a bound.
func wantNumber(s string) (uint64, bool) {
	n := new(big.Int)
	switch {
	case strings.Contains(s, "\n"): // the forms' $ is then no end of the text
		return 0, false
	case decimalForm.MatchString(s):
		n.SetString(s, 10)
	case hexForm.MatchString(s):
		n.SetString(s[2:], 16)
	default:
		return 0, false
	}
	if !n.IsUint64() {
		return 0, false
	}
	return n.Uint64(), true
}

// P2.2: numbers written out.
func TestNumberExamples(t *testing.T) {
	const top = math.MaxUint64
	zeros := strings.Repeat("0", 100000)
	for _, x := range []struct {
		s    string
		want uint64
	}{
		{"0", 0}, {"9", 9}, {"10", 10}, {"007", 7}, {"00", 0}, {"1234567890", 1234567890},
		{"0x0", 0}, {"0x1F", 31}, {"0x1f", 31}, {"0xaBcDeF", 0xabcdef}, {"0x00000000000000000001", 1}, {"0x0123456789", 0x123456789},
		{"18446744073709551615", top}, {"18446744073709551614", top - 1}, {"018446744073709551615", top}, {"9223372036854775808", 1 << 63},
		{"0xFFFFFFFFFFFFFFFF", top}, {"0xffffffffffffffff", top}, {"0x0FFFFFFFFFFFFFFFF", top}, {"0x8000000000000000", 1 << 63},
		{zeros + "5", 5}, {"0x" + zeros + "a", 10},
	} {
		if v, ok := Number(x.s); v != x.want || !ok {
			t.Errorf("%.40q: %d, %v, want %d", x.s, v, ok, x.want)
		}
	}
}

// P2.2: what is no number, and what is too great.
func TestNumberRefuses(t *testing.T) {
	for _, s := range []string{
		"", "0x", "x", "x1", "0X1", "0x0x1", "00x1", "1x1", "0xg", "0x1G", "0x_1", "1_0", "1_", "_1", "+1", "-1", "-0", "0x-1", "0x+1", "0b1", "0o7", "1e3", "1.0", ".1", "1.", "f", "F", "a1", "1a", "12z", " 1", "1 ", "0x 1", "0x1 ", "1\n", "\n1", "0x1\n", "1\x00", "\x00", "\xff", "é", "٣", "0xé", "true", ":", "/", "@", "`", "0x:", "0x/", "0x@", "0x`",
		"18446744073709551616", "18446744073709551617", "18446744073709551620", "18446744073709551625", "18446744073709551700", "20000000000000000000", "99999999999999999999", "184467440737095516150", "36893488147419103232", "36893488147419103233",
		"0x10000000000000000", "0x10000000000000001", "0xFFFFFFFFFFFFFFFFF", "0x20000000000000000", "0x100000000000000000000000000000000",
		strings.Repeat("9", 100000), "0x" + strings.Repeat("f", 100000), "1" + strings.Repeat("0", 100000), "0x1" + strings.Repeat("0", 100000), strings.Repeat("0", 100000) + "z",
	} {
		if v, ok := Number(s); v != 0 || ok {
			t.Errorf("%.40q: %d, %v", s, v, ok)
		}
	}
}

// P2.2: all short texts, and the numbers around every power of 2.
func TestNumberAsWanted(t *testing.T) {
	same := func(s string) {
		want, may := wantNumber(s)
		if v, ok := Number(s); v != want || ok != may {
			t.Fatalf("%q: %d, %v, want %d, %v", s, v, ok, want, may)
		}
	}
	each("019axAFgG_+\n", 4, same)
	for a := range 256 {
		for b := range 256 {
			same(string([]byte{byte(a), byte(b)}))
			same("0x" + string([]byte{byte(a), byte(b)}))
		}
	}
	for power := range uint(70) {
		for by := range int64(41) {
			n := new(big.Int).Lsh(big.NewInt(1), power)
			n.Add(n, big.NewInt(by-20))
			if n.Sign() < 0 {
				continue
			}
			same(n.String())
			same("00" + n.String())
			same("0x" + n.Text(16))
			same("0x0" + strings.ToUpper(n.Text(16)))
		}
	}
}

// P2.2: Keyword.
func TestKeyword(t *testing.T) {
	words := strings.Fields("bool u8 u16 u32 u64 i8 i16 i32 i64 void if else while return assert assume nondet true false")
	if len(words) != 19 {
		t.Fatal(len(words))
	}
	for _, s := range words {
		if !Keyword(s) {
			t.Errorf("%q is one", s)
		}
		for _, near := range []string{s[1:], s[:len(s)-1], s + "_", "_" + s, " " + s, s + " ", s + "\x00", strings.ToUpper(s), s + s, s + "1"} {
			if Keyword(near) != slices.Contains(words, near) {
				t.Errorf("%q: %v", near, Keyword(near))
			}
		}
	}
	for _, s := range []string{"", " ", "x", "goto", "for", "int", "u", "u1", "u128", "i1", "main", "break", "1", "0x1", "+", "||", ";", "\xff", "bool u8"} {
		if Keyword(s) {
			t.Errorf("%q is none", s)
		}
	}
}

// P2.3: Show.
func TestShow(t *testing.T) {
	end := api.Token{Kind: 3, Line: 4, Col: 7}
	name := func(s string) api.Token { return api.Token{Text: s} }
	number := api.Token{Kind: 1, Text: "0x1F", Num: 31, Line: 2, Col: 2}
	sign := func(s string) api.Token { return api.Token{Kind: 2, Text: s, Line: 9} }
	for i, x := range []struct {
		l    []api.Token
		want string
	}{
		{nil, ""}, {[]api.Token{}, ""}, {[]api.Token{end}, ""}, {[]api.Token{end, end}, ""},
		{[]api.Token{name("x")}, "x"}, {[]api.Token{name("x"), end}, "x"}, {[]api.Token{name("x"), end, end}, "x"},
		{[]api.Token{name("x"), sign("="), number, sign(";"), end}, "x = 0x1F ;"},
		{[]api.Token{name("x"), sign("="), number, sign(";")}, "x = 0x1F ;"},
		{[]api.Token{sign("/"), sign("/"), end}, "/ /"}, {[]api.Token{sign("<"), sign("<"), sign("=")}, "< < ="},
		// a number is shown by its text, not by what it is
		{[]api.Token{{Kind: 1, Text: "007", Num: 7}, {Kind: 1, Text: "5", Num: 6}}, "007 5"},
		// tokens that Lex doesn't tell: a blank ahead of each but the first, and but the ends
		{[]api.Token{name("a"), end, name("b")}, "a b"}, {[]api.Token{end, name("a")}, " a"}, {[]api.Token{name(""), name("b"), name("")}, " b "},
		{[]api.Token{name("a"), {Kind: 3, Text: "?"}}, "a"}, {[]api.Token{{Kind: 7, Text: "\xff"}, {Kind: -1, Text: "a b"}}, "\xff a b"},
	} {
		kept := slices.Clone(x.l)
		if s := Show(x.l); s != x.want {
			t.Errorf("%d: %q, want %q", i, s, x.want)
		}
		if !slices.Equal(kept, x.l) {
			t.Errorf("%d: what was handed in is changed", i)
		}
	}
	l, _, _, _ := Lex("u8 x1;\n// c\n x1<<=0xFf//")
	if s := Show(l); s != "u8 x1 ; x1 << = 0xFf" {
		t.Errorf("%q", s)
	}
}
