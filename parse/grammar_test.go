package parse

import (
	"maps"
	"slices"
	"strings"
	"testing"

	"skua/api"
	"skua/lex"
)

// grammar is the chapter's, written without left recursion: a rule's ways by its name; all other words are tokens, or kinds of them.
var grammar = map[string][]string{
	"PROGRAM":    {"END", "TYPE NAME GLOBAL PROGRAM", "TYPE NAME FUNCTION PROGRAM", "void NAME FUNCTION PROGRAM"},
	"GLOBAL":     {";", "[ NUMBER ] ;"},
	"FUNCTION":   {"( ) BLOCK", "( TYPE NAME PARAMS ) BLOCK"},
	"PARAMS":     {"", ", TYPE NAME PARAMS"},
	"BLOCK":      {"{ STATEMENTS }"},
	"STATEMENTS": {"", "STATEMENT STATEMENTS"},
	"STATEMENT": {
		"TYPE NAME ;", "TARGET = EXPRESSION ;", "TARGET = nondet ( ) ;", "CALL ;", "TARGET = CALL ;",
		"if ( EXPRESSION ) BLOCK", "if ( EXPRESSION ) BLOCK else BLOCK", "while ( EXPRESSION ) BLOCK",
		"return ;", "return EXPRESSION ;", "assert ( EXPRESSION ) ;", "assume ( EXPRESSION ) ;",
	},
	"CALL":       {"NAME ( )", "NAME ( EXPRESSION ARGUMENTS )"},
	"ARGUMENTS":  {"", ", EXPRESSION ARGUMENTS"},
	"TARGET":     {"NAME", "NAME [ EXPRESSION ]"},
	"EXPRESSION": {"OPERAND", "OPERAND BINARY EXPRESSION"},
	"OPERAND":    {"! OPERAND", "~ OPERAND", "- OPERAND", "( TYPE ) OPERAND", "NUMBER", "true", "false", "TARGET", "( EXPRESSION )"},
}

// ways is all that a program may go on with: what is to come, each written as words.
type ways map[string]bool

func start() ways { return ways{"PROGRAM": true} }

// opened is the ways whose first words are tokens.
func (w ways) opened() ways {
	out := ways{}
	var open func(way string)
	open = func(way string) {
		head, rest, _ := strings.Cut(way, " ")
		rules, is := grammar[head]
		if !is {
			out[way] = true
			return
		}
		for _, r := range rules {
			open(strings.TrimSpace(r + " " + rest))
		}
	}
	for way := range w {
		open(way)
	}
	return out
}

// past is the ways that are left behind a token; none: no program goes on with it.
func (w ways) past(t api.Token) ways {
	out := ways{}
	for way := range w.opened() {
		head, rest, _ := strings.Cut(way, " ")
		if fits(head, t) {
			out[rest] = true
		}
	}
	return out
}

func fits(word string, t api.Token) bool {
	switch word {
	case "END":
		return t.Kind == 3
	case "NUMBER":
		return t.Kind == 1
	case "NAME":
		return t.Kind == 0 && !lex.Keyword(t.Text)
	case "TYPE":
		return slices.Contains(typeWords, t.Text)
	case "BINARY":
		return slices.Contains(allBinaries(), t.Text)
	}
	return t.Text == word
}

// tokens is a text's, the end among them, with places that tell which of them it is.
func tokens(t *testing.T, src string) []api.Token {
	t.Helper()
	l, _, _, e := lex.Lex(src)
	if e != api.OK {
		t.Fatal(src, e)
	}
	return placed(l)
}

func placed(l []api.Token) []api.Token {
	for i := range l {
		l[i].Line, l[i].Col = i+1, 1000+i
	}
	return l
}

// likeGrammar holds Parse's answer about tokens against the grammar, from a token on up to which they may stand so.
func likeGrammar(t *testing.T, l []api.Token, from int, w ways) {
	t.Helper()
	n, line, col, e := Parse(l)
	for _, x := range l[from:] {
		next := w.past(x)
		if len(next) == 0 {
			if !zero(n) || line != x.Line || col != x.Col || e != api.ErrParseToken {
				t.Fatalf("%s: %d, %d, %d, want %d, %d", lex.Show(l), line, col, e, x.Line, x.Col)
			}
			return
		}
		w = next
		if x.Kind == 3 {
			if n.Kind != "program" || line != 0 || col != 0 || e != api.OK {
				t.Fatalf("%s: %d, %d, %d, want a tree", lex.Show(l), line, col, e)
			}
			return
		}
	}
	if !zero(n) || line != 0 || col != 0 || e != api.ErrParseToken {
		t.Fatalf("%s, without an end: %d, %d, %d", lex.Show(l), line, col, e)
	}
}

func zero(n api.Node) bool {
	return n.Kind == "" && n.Text == "" && n.Num == 0 && n.Line == 0 && n.Col == 0 && len(n.Kids) == 0
}

const everyToken = "x u8 bool i64 void if else while return assert assume nondet true false 1 0x2 || && == != <= >= << >> + - * / % & | ^ ~ ! < > = ( ) { } [ ] , ;"

// P3.1: a program of all rules, in which each token is replaced, left out, or has another one ahead of it: the first token with which no program goes on is told.
func TestFirstTokenThatIsWrong(t *testing.T) {
	base := tokens(t, `
		u8 x; bool a[3]; void e() { }
		i32 f(u8 p, i64 q) {
			u16 l; x = 1; x = nondet(); a[x] = nondet(); a[1] = a[x + 2]; e(); f(x, -1); x = f(); a[0] = f(a[1], (x));
			if (x == 1) { } if (!x) { return; } else { return 0; } while (true || x) { assert(x < 2 * (3 - x)); }
			assume((u8) - ~ (bool) (x) & false); return (x);
		}`)
	others := tokens(t, everyToken)
	w := start()
	for i := range base {
		put := func(l ...api.Token) {
			likeGrammar(t, placed(slices.Concat(base[:i:i], l)), i, w)
		}
		put()
		put(base[i+1:]...)
		for _, x := range others {
			put(append([]api.Token{x}, base[i:]...)...)
			put(append([]api.Token{x}, base[i+1:]...)...)
			put(x)
		}
		w = w.past(base[i])
	}
	if !maps.Equal(w, ways{"": true}) {
		t.Fatal("the program isn't one", w)
	}
}

// P3.1: everything that a few beginnings may go on with, and each first token that is wrong behind it.
func TestEveryShortProgram(t *testing.T) {
	for _, x := range []struct {
		begins, with string
		most         int
	}{
		{"", everyToken, 4},
		{"", "void u8 x 1 ( ) [ ] , ; { }", 7},
		{"void f() {", everyToken, 3},
		{"void f() {", "x 1 ( ) [ ] = ; , - nondet", 7},
		{"void f() { if (x) {", "} else { if ( x ) ;", 8},
		{"void f() { x =", everyToken, 3},
		{"void f() { x =", "x u8 ( ) - + 1 [ ]", 7},
		{"void f() { return", "x ! == ( ) ; true void }", 6},
		{"void f() { g(", "x , ( ) ; 1 u8 =", 7},
	} {
		others := tokens(t, x.with)
		var goOn func(l []api.Token, w ways, left int)
		goOn = func(l []api.Token, w ways, left int) {
			for _, o := range others {
				more := placed(append(slices.Clone(l), o))
				likeGrammar(t, more, len(l), w)
				if next := w.past(o); left > 1 && len(next) > 0 && o.Kind != 3 {
					goOn(more, next, left-1)
				}
			}
		}
		begins := tokens(t, x.begins)
		begins = begins[:len(begins)-1]
		w := start()
		for _, b := range begins {
			w = w.past(b)
		}
		goOn(begins, w, x.most)
	}
}
