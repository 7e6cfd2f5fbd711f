package lex

import (
	"fmt"
	"regexp"
	"slices"
	"strings"
	"testing"

	"skua/api"
)

// allSigns is written out again, in another order, so that a fault in the package's own table is seen.
var allSigns = strings.Fields("; , ] [ } { ) ( = > < ! ~ ^ | & % / * - + >> << >= <= != == && ||")

// The forms of tokens as the chapter's section Words says them, again.
var (
	gapForm    = regexp.MustCompile(`^(?s:[ \t\r\n]|//[^\n]*)+`)
	nameForm   = regexp.MustCompile(`^[a-zA-Z_][a-zA-Z0-9_]*`)
	numberForm = regexp.MustCompile(`^[0-9][a-zA-Z0-9_]*`)
)

// answer is all that a call of Lex answers.
type answer struct {
	l         []api.Token
	line, col int
	e         api.Errno
}

func lexed(src string) answer {
	l, line, col, e := Lex(src)
	return answer{l, line, col, e}
}

func (a answer) same(b answer) bool {
	return slices.Equal(a.l, b.l) && a.line == b.line && a.col == b.col && a.e == b.e
}

// latin is a text with a rune for each byte, as forms take a text's runes.
func latin(s string) string {
	runes := make([]rune, len(s))
	for i := range len(s) {
		runes[i] = rune(s[i])
	}
	return string(runes)
}

// formSize is how many bytes a form takes at the beginning of a text.
func formSize(form *regexp.Regexp, s string) int {
	return len([]rune(form.FindString(latin(s))))
}

// placeOf is where a byte of a program stands, told by the bytes ahead of it.
func placeOf(src string, at int) (int, int) {
	lines := strings.Split(src[:at], "\n")
	return len(lines), len(lines[len(lines)-1]) + 1
}

// wantLex is what P2.1 asks of Lex.
func wantLex(src string) answer {
	var l []api.Token
	at := 0
	for {
		at += formSize(gapForm, src[at:])
		rest := src[at:]
		line, col := placeOf(src, at)
		t := api.Token{Line: line, Col: col}
		size := 0
		if n := formSize(nameForm, rest); n > 0 {
			size = n
		} else if n := formSize(numberForm, rest); n > 0 {
			t.Kind, size = 1, n
		} else {
			t.Kind = 2
			for _, sign := range allSigns {
				if strings.HasPrefix(rest, sign) {
					size = max(size, len(sign))
				}
			}
		}
		if rest == "" {
			t.Kind = 3
			return answer{append(l, t), 0, 0, 0}
		}
		if size == 0 {
			return answer{nil, line, col, 20}
		}
		t.Text = rest[:size]
		if t.Kind == 1 {
			num, ok := wantNumber(t.Text)
			if !ok {
				return answer{nil, line, col, 21}
			}
			t.Num = num
		}
		l = append(l, t)
		at += size
	}
}

func sameAsWanted(t *testing.T, src string) {
	t.Helper()
	if got, want := lexed(src), wantLex(src); !got.same(want) {
		t.Fatalf("%q:\n%+v, want\n%+v", src, got, want)
	}
}

// each tells all texts of at most so many bytes of an alphabet.
func each(alphabet string, most int, tell func(s string)) {
	var grow func(s string)
	grow = func(s string) {
		tell(s)
		if len(s) == most {
			return
		}
		for i := range len(alphabet) {
			grow(s + alphabet[i:i+1])
		}
	}
	grow("")
}

// row is a token that may be written without its fields' names.
type row struct {
	Kind      int
	Text      string
	Num       uint64
	Line, Col int
}

// P2.1: the chapter's examples, and tokens written out with their places.
func TestLexTokens(t *testing.T) {
	for _, x := range []struct {
		src  string
		want []row
	}{
		{"x = 0x1F; // y", []row{{0, "x", 0, 1, 1}, {2, "=", 0, 1, 3}, {1, "0x1F", 31, 1, 5}, {2, ";", 0, 1, 9}, {3, "", 0, 1, 15}}},
		{"", []row{{3, "", 0, 1, 1}}},
		{" \t\r", []row{{3, "", 0, 1, 4}}},
		{"\n", []row{{3, "", 0, 2, 1}}},
		{"\r\na\r\n", []row{{0, "a", 0, 2, 1}, {3, "", 0, 3, 1}}},
		{"\ra", []row{{0, "a", 0, 1, 2}, {3, "", 0, 1, 3}}},
		{"\ta\n\n \tb", []row{{0, "a", 0, 1, 2}, {0, "b", 0, 3, 3}, {3, "", 0, 3, 4}}},
		// comments: up to the line feed, whatever bytes stand in them
		{"//", []row{{3, "", 0, 1, 3}}},
		{"a//$ \x00\xff // 1z\rb\n//é\nc", []row{{0, "a", 0, 1, 1}, {0, "c", 0, 3, 1}, {3, "", 0, 3, 2}}},
		{"a/ /b", []row{{0, "a", 0, 1, 1}, {2, "/", 0, 1, 2}, {2, "/", 0, 1, 4}, {0, "b", 0, 1, 5}, {3, "", 0, 1, 6}}},
		{"a///b\n/", []row{{0, "a", 0, 1, 1}, {2, "/", 0, 2, 1}, {3, "", 0, 2, 2}}},
		{"a*//b", []row{{0, "a", 0, 1, 1}, {2, "*", 0, 1, 2}, {3, "", 0, 1, 6}}},
		// names, keywords among them
		{"_ _1 Az09_ zA while u8 truex", []row{{0, "_", 0, 1, 1}, {0, "_1", 0, 1, 3}, {0, "Az09_", 0, 1, 6}, {0, "zA", 0, 1, 12}, {0, "while", 0, 1, 15}, {0, "u8", 0, 1, 21}, {0, "truex", 0, 1, 24}, {3, "", 0, 1, 29}}},
		// numbers
		{"0 007 0xfF 18446744073709551615", []row{{1, "0", 0, 1, 1}, {1, "007", 7, 1, 3}, {1, "0xfF", 255, 1, 7}, {1, "18446744073709551615", 1<<64 - 1, 1, 12}, {3, "", 0, 1, 32}}},
		{"-1", []row{{2, "-", 0, 1, 1}, {1, "1", 1, 1, 2}, {3, "", 0, 1, 3}}},
		// the longest sign that fits
		{"<<=", []row{{2, "<<", 0, 1, 1}, {2, "=", 0, 1, 3}, {3, "", 0, 1, 4}}},
		{"<=<", []row{{2, "<=", 0, 1, 1}, {2, "<", 0, 1, 3}, {3, "", 0, 1, 4}}},
		{"!===", []row{{2, "!=", 0, 1, 1}, {2, "==", 0, 1, 3}, {3, "", 0, 1, 5}}},
		{"|||&&&>>>", []row{{2, "||", 0, 1, 1}, {2, "|", 0, 1, 3}, {2, "&&", 0, 1, 4}, {2, "&", 0, 1, 6}, {2, ">>", 0, 1, 7}, {2, ">", 0, 1, 9}, {3, "", 0, 1, 10}}},
		{"a[1]", []row{{0, "a", 0, 1, 1}, {2, "[", 0, 1, 2}, {1, "1", 1, 1, 3}, {2, "]", 0, 1, 4}, {3, "", 0, 1, 5}}},
	} {
		var want []api.Token
		for _, r := range x.want {
			want = append(want, api.Token(r))
		}
		if got := lexed(x.src); !got.same(answer{want, 0, 0, api.OK}) {
			t.Errorf("%q: %+v, want %+v", x.src, got, x.want)
		}
	}
}

// P2.1, P1: the first place that is wrong, with nothing else beside it.
func TestLexErrors(t *testing.T) {
	for _, x := range []struct {
		src       string
		line, col int
		e         api.Errno
	}{
		{"a $", 1, 3, api.ErrLexByte}, {"12z", 1, 1, api.ErrLexNumber},
		{"$", 1, 1, api.ErrLexByte}, {"a\n\n  \t$", 3, 4, api.ErrLexByte}, {"// c\n#", 2, 1, api.ErrLexByte}, {"a\r$", 1, 3, api.ErrLexByte},
		{"é", 1, 1, api.ErrLexByte}, {"aé", 1, 2, api.ErrLexByte}, {"// é\n é", 2, 2, api.ErrLexByte}, {"\x00", 1, 1, api.ErrLexByte}, {"a\x00", 1, 2, api.ErrLexByte}, {"a\vb", 1, 2, api.ErrLexByte}, {"\f", 1, 1, api.ErrLexByte}, {"\x7f", 1, 1, api.ErrLexByte}, {"\u00a0", 1, 1, api.ErrLexByte},
		{"1.5", 1, 2, api.ErrLexByte}, {"\"a\"", 1, 1, api.ErrLexByte}, {"a:b", 1, 2, api.ErrLexByte}, {"a?", 1, 2, api.ErrLexByte}, {"/**/ @", 1, 6, api.ErrLexByte},
		{"0x", 1, 1, api.ErrLexNumber}, {"0X1", 1, 1, api.ErrLexNumber}, {"0xg", 1, 1, api.ErrLexNumber}, {"0x1G", 1, 1, api.ErrLexNumber}, {"1_", 1, 1, api.ErrLexNumber}, {"1a", 1, 1, api.ErrLexNumber}, {"x+ 1u8", 1, 4, api.ErrLexNumber}, {"\n 0b1", 2, 2, api.ErrLexNumber},
		{"18446744073709551616", 1, 1, api.ErrLexNumber}, {"a 0x10000000000000000", 1, 3, api.ErrLexNumber},
		// of two wrong places the first, whichever error it is
		{"1z $", 1, 1, api.ErrLexNumber}, {"$ 1z", 1, 1, api.ErrLexByte}, {"1\n2z\n$", 2, 1, api.ErrLexNumber}, {"1$2z", 1, 2, api.ErrLexByte}, {"1z$", 1, 1, api.ErrLexNumber},
	} {
		got := lexed(x.src)
		if len(got.l) != 0 || got.line != x.line || got.col != x.col || got.e != x.e {
			t.Errorf("%q: %+v, want %d, %d, %d", x.src, got, x.line, x.col, x.e)
		}
	}
}

// P2.1: programs around MaxSource bytes; one that is too long is told so ahead of what is wrong in it.
func TestLexLong(t *testing.T) {
	const most = api.MaxSource
	for _, x := range []struct {
		src       string
		size      int
		line, col int
		e         api.Errno
	}{
		{strings.Repeat(";", most), most + 1, 0, 0, api.OK},
		{strings.Repeat("a", most), 2, 0, 0, api.OK},
		{strings.Repeat("0", most), 2, 0, 0, api.OK},
		{strings.Repeat("\n", most), 1, 0, 0, api.OK},
		{"//" + strings.Repeat("$", most-2), 1, 0, 0, api.OK},
		{strings.Repeat("\n", most-1) + "$", 0, most, 1, api.ErrLexByte},
		{strings.Repeat(" ", most-1) + "$", 0, 1, most, api.ErrLexByte},
		{strings.Repeat("1", most), 0, 1, 1, api.ErrLexNumber},
		{strings.Repeat(";", most+1), 0, 0, 0, api.ErrLexLong},
		{strings.Repeat(" ", most+1), 0, 0, 0, api.ErrLexLong},
		{"$" + strings.Repeat(" ", most), 0, 0, 0, api.ErrLexLong},
		{strings.Repeat("1", most+1), 0, 0, 0, api.ErrLexLong},
		{strings.Repeat("é", most/2+1), 0, 0, 0, api.ErrLexLong},
		{strings.Repeat(";", 40*most), 0, 0, 0, api.ErrLexLong},
	} {
		got := lexed(x.src)
		if len(got.l) != x.size || got.line != x.line || got.col != x.col || got.e != x.e {
			t.Errorf("%d bytes, %q first: %d tokens, %d, %d, %d, want %d, %d, %d, %d", len(x.src), x.src[0], len(got.l), got.line, got.col, got.e, x.size, x.line, x.col, x.e)
		}
		if got.e == api.OK && got.l[x.size-1].Kind != 3 {
			t.Errorf("%d bytes, %q first: the end isn't last", len(x.src), x.src[0])
		}
	}
	line, col := placeOf(strings.Repeat("\n", most), most)
	if end := lexed(strings.Repeat("\n", most)).l[0]; end.Line != line || end.Col != col {
		t.Errorf("the end: %+v, want %d, %d", end, line, col)
	}
}

// P2.1: every byte by itself and behind every other one.
func TestLexEveryPairOfBytes(t *testing.T) {
	for a := range 256 {
		sameAsWanted(t, string([]byte{byte(a)}))
		for b := range 256 {
			sameAsWanted(t, string([]byte{byte(a), byte(b)}))
		}
	}
}

// P2.1, P2.2: all short texts of bytes that may and may not go together.
func TestLexEveryShortText(t *testing.T) {
	for _, alphabet := range []string{"0xF9_/\n $", "<>=!&|", "aZ1/ \r\n\t"} {
		each(alphabet, 5, func(s string) { sameAsWanted(t, s) })
	}
}

// Rules: what is handed out is new memory, and one call doesn't hang on another.
func TestLexAnswersAnew(t *testing.T) {
	src := "a = 1; // b\n c"
	one, two := lexed(src), lexed(src)
	if !one.same(two) {
		t.Fatal(one, two)
	}
	for i := range one.l {
		one.l[i] = api.Token{Kind: 9, Text: "?"}
	}
	if again := wantLex(src); !two.same(again) || !lexed(src).same(again) {
		t.Error("an answer hangs on another one")
	}
}

// gaps is what may stand between tokens, whatever those are; none begins with a comment, which takes in a / that stands right ahead of it.
var gaps = []string{" ", "\t", "\r", "\n", "\r\n", "  \t", " //\n", "\t// $ 1z é /* \n", " // a\n//b\r\n\n\t", "\n\n\n", "\n//////\n", "\r// \x00\xff\r\n "}

// tokensOf is tokens without places: names, keywords, numbers, all signs.
func tokensOf() []api.Token {
	var l []api.Token
	for _, s := range strings.Fields("x _ x1 __0 A while u8 i64 nondet x0 XFF") {
		l = append(l, api.Token{Text: s})
	}
	for _, s := range strings.Fields("0 00 7 255 0x0 0xabcdef 0xABCDEF 0xFFFFFFFFFFFFFFFF 18446744073709551615 000000000000000000000000000001") {
		num, _ := wantNumber(s)
		l = append(l, api.Token{Kind: 1, Text: s, Num: num})
	}
	for _, s := range allSigns {
		l = append(l, api.Token{Kind: 2, Text: s})
	}
	return l
}

// bare is tokens without their places.
func bare(l []api.Token) []api.Token {
	out := slices.Clone(l)
	for i := range out {
		out[i].Line, out[i].Col = 0, 0
	}
	return out
}

// P2.4: what stands between tokens doesn't matter, and their places are those that they have.
func TestWhatStandsBetween(t *testing.T) {
	tokens := tokensOf()
	for _, ahead := range append(gaps, "") {
		for _, between := range gaps {
			src := ahead
			var want []api.Token
			for _, x := range tokens {
				x.Line, x.Col = placeOf(src, len(src))
				want = append(want, x)
				src += x.Text + between
			}
			end := api.Token{Kind: 3}
			end.Line, end.Col = placeOf(src, len(src))
			if got := lexed(src); !got.same(answer{append(want, end), 0, 0, api.OK}) {
				t.Fatalf("%q: %+v", src, got)
			}
		}
	}
}

// P2.4: what is shown is lexed into the same tokens, but for where they stand.
func TestShownIsLexed(t *testing.T) {
	again := func(src string) {
		l, _, _, e := Lex(src)
		if e != api.OK {
			return
		}
		back, _, _, e := Lex(Show(l))
		if e != api.OK || !slices.Equal(bare(back), bare(l)) {
			t.Fatalf("%q: shown %q: %v, %d, want %v", src, Show(l), back, e, l)
		}
		for _, x := range back {
			if x.Line != 1 {
				t.Fatalf("%q: shown on more than one line", src)
			}
		}
	}
	tokens := tokensOf()
	for _, a := range tokens {
		for _, b := range tokens {
			again(a.Text + b.Text)
			again(a.Text + " " + b.Text)
			again(fmt.Sprintf("%s\n%s// %s\n%s", a.Text, b.Text, a.Text, a.Text))
		}
	}
	each("a0x/=<\n", 5, again)
}
