package parse

import (
	"math"
	"slices"
	"strconv"
	"strings"

	"skua/api"
	"skua/lex"
)

// many is as many kids as may be.
const many = math.MaxInt

// Show is a tree as a program.
func Show(n api.Node) (string, api.Errno) {
	words, e := written(n)
	return strings.Join(words, " "), e
}

// Same is whether two trees are the same, but for where their nodes stand.
func Same(a, b api.Node) bool {
	return a.Kind == b.Kind && a.Text == b.Text && a.Num == b.Num && slices.EqualFunc(a.Kids, b.Kids, Same)
}

// Deep is how many nodes a tree has in one another at most.
func Deep(n api.Node) int {
	deepest := 0
	for _, kid := range n.Kids {
		deepest = max(deepest, Deep(kid))
	}
	return deepest + 1
}

// written recovers what the writer gives up with.
func written(n api.Node) (words []string, e api.Errno) {
	defer func() {
		if r := recover(); r != nil {
			words, e = nil, r.(fault).e
		}
	}()
	w := writer{}
	w.program(n)
	return w.words, api.OK
}

// need gives up, if a tree isn't as it should be.
func need(is bool) {
	if !is {
		panic(fault{e: api.ErrParseNode})
	}
}

// bare is whether a node has neither text nor number, and as many kids as it may.
func bare(n api.Node, fewest, most int) bool {
	return n.Text == "" && texted(n, fewest, most)
}

// named is whether a node has a name, no number, and as many kids as it may.
func named(n api.Node, fewest, most int) bool {
	return isName(n.Text) && texted(n, fewest, most)
}

// texted is of nodes whose text is held against something else.
func texted(n api.Node, fewest, most int) bool {
	return n.Num == 0 && fewest <= len(n.Kids) && len(n.Kids) <= most
}

func isName(s string) bool {
	for i := range len(s) {
		b := s[i]
		letter := 'a' <= b && b <= 'z' || 'A' <= b && b <= 'Z' || b == '_'
		digit := '0' <= b && b <= '9'
		if !letter && (!digit || i == 0) {
			return false
		}
	}
	return s != "" && !lex.Keyword(s)
}

// writer is the texts of the tokens that a tree is shown by.
type writer struct {
	words []string
}

func (w *writer) put(words ...string) { w.words = append(w.words, words...) }

// commas puts nodes with a comma between each.
func (w *writer) commas(l []api.Node, write func(n api.Node)) {
	for i, n := range l {
		if i > 0 {
			w.put(",")
		}
		write(n)
	}
}

func (w *writer) program(n api.Node) {
	need(n.Kind == "program" && bare(n, 0, many))
	for _, kid := range n.Kids {
		if kid.Kind == "func" {
			w.function(kid)
		} else {
			w.global(kid)
		}
	}
}

func (w *writer) global(n api.Node) {
	need(n.Kind == "global" && named(n, 1, 2))
	w.declared(n, false)
	if len(n.Kids) == 2 {
		w.put("[")
		w.number(n.Kids[1])
		w.put("]")
	}
	w.put(";")
}

func (w *writer) function(n api.Node) {
	need(named(n, 2, many))
	last := len(n.Kids) - 1
	w.declared(n, true)
	w.put("(")
	w.commas(n.Kids[1:last], w.param)
	w.put(")")
	w.block(n.Kids[last])
}

func (w *writer) param(n api.Node) {
	need(n.Kind == "param" && named(n, 1, 1))
	w.declared(n, false)
}

// declared puts the type that is a node's first kid, and the node's name.
func (w *writer) declared(n api.Node, void bool) {
	t := n.Kids[0]
	need(t.Kind == "type" && texted(t, 0, 0))
	need(isType(t.Text) || void && t.Text == "void")
	w.put(t.Text, n.Text)
}

func (w *writer) number(n api.Node) {
	need(n.Kind == "num" && n.Text == "" && len(n.Kids) == 0)
	w.put(strconv.FormatUint(n.Num, 10))
}

func (w *writer) block(n api.Node) {
	need(n.Kind == "block" && bare(n, 0, many))
	w.put("{")
	for _, kid := range n.Kids {
		w.statement(kid)
	}
	w.put("}")
}

func (w *writer) statement(n api.Node) {
	switch n.Kind {
	case "if":
		w.choice(n)
		return
	case "while":
		need(bare(n, 2, 2))
		w.guarded(n)
		return
	case "local":
		need(named(n, 1, 1))
		w.declared(n, false)
	case "call":
		w.call(n)
	case "return":
		need(bare(n, 0, 1))
		w.put("return")
		w.commas(n.Kids, w.expression)
	case "assert", "assume":
		need(bare(n, 1, 1))
		w.put(n.Kind, "(")
		w.expression(n.Kids[0])
		w.put(")")
	default:
		w.gift(n)
	}
	w.put(";")
}

func (w *writer) choice(n api.Node) {
	need(bare(n, 2, 3))
	w.guarded(n)
	if len(n.Kids) == 3 {
		w.put("else")
		w.block(n.Kids[2])
	}
}

// guarded puts a keyword, an expression and a block.
func (w *writer) guarded(n api.Node) {
	w.put(n.Kind, "(")
	w.expression(n.Kids[0])
	w.put(")")
	w.block(n.Kids[1])
}

// gift puts a statement that gives something to a target.
func (w *writer) gift(n api.Node) {
	kids := 2
	if n.Kind == "nondet" {
		kids = 1
	}
	need(bare(n, kids, kids))
	w.target(n.Kids[0])
	w.put("=")
	switch n.Kind {
	case "assign":
		w.expression(n.Kids[1])
	case "nondet":
		w.put("nondet", "(", ")")
	case "result":
		w.call(n.Kids[1])
	default:
		need(false)
	}
}

func (w *writer) call(n api.Node) {
	need(n.Kind == "call" && named(n, 0, many))
	w.put(n.Text, "(")
	w.commas(n.Kids, w.expression)
	w.put(")")
}

func (w *writer) target(n api.Node) {
	if n.Kind != "index" {
		need(n.Kind == "name" && named(n, 0, 0))
		w.put(n.Text)
		return
	}
	need(named(n, 1, 1))
	w.put(n.Text, "[")
	w.expression(n.Kids[0])
	w.put("]")
}

// expression puts one that needs no parentheses where it stands.
func (w *writer) expression(n api.Node) {
	switch n.Kind {
	case "binary":
		need(level(n.Text) >= 0 && texted(n, 2, 2))
		w.operand(n.Kids[0])
		w.put(n.Text)
		w.operand(n.Kids[1])
	case "unary":
		need(isUnary(n.Text) && texted(n, 1, 1))
		w.put(n.Text)
		w.operand(n.Kids[0])
	case "cast":
		need(isType(n.Text) && texted(n, 1, 1))
		w.put("(", n.Text, ")")
		w.operand(n.Kids[0])
	case "true", "false":
		need(bare(n, 0, 0))
		w.put(n.Kind)
	case "num":
		w.number(n)
	default:
		w.target(n)
	}
}

func (w *writer) operand(n api.Node) {
	if n.Kind != "binary" && n.Kind != "unary" && n.Kind != "cast" {
		w.expression(n)
		return
	}
	w.put("(")
	w.expression(n)
	w.put(")")
}
