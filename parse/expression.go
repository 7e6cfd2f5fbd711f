package parse

import (
	"slices"

	"skua/api"
)

// level is how tightly an operator of two operands binds, from 0 on; below 0: it is none.
func level(sign string) int {
	levels := [][]string{
		{"||"}, {"&&"}, {"|"}, {"^"}, {"&"},
		{"==", "!="}, {"<", "<=", ">", ">="}, {"<<", ">>"}, {"+", "-"}, {"*", "/", "%"},
	}
	for i := range len(levels) {
		if slices.Contains(levels[i], sign) {
			return i
		}
	}
	return -1
}

func isUnary(sign string) bool { return sign == "!" || sign == "~" || sign == "-" }

func (p *parser) expression() api.Node { return p.binary(0) }

// binary reads an expression whose operators, outside of parentheses, are of a level or of tighter ones. It nests by levels alone, not by how many operators there are.
func (p *parser) binary(loosest int) api.Node {
	left := p.operand()
	for {
		at := level(p.peek().Text)
		if at < loosest {
			return left
		}
		t := p.take(true)
		n := node(t, "binary", t.Text)
		// Only what binds tighter belongs to the right operand: so operators of one level go from the left to the right.
		n.Kids = []api.Node{left, p.binary(at + 1)}
		left = n
	}
}

func (p *parser) operand() api.Node {
	t := p.peek()
	switch {
	case t.Kind == numberKind:
		return p.number()
	case t.Text == "true" || t.Text == "false":
		return node(t, p.take(true).Text, "")
	case isUnary(t.Text):
		n := node(t, "unary", p.take(true).Text)
		n.Kids = []api.Node{p.deeper(p.operand)}
		return n
	case t.Text == "(":
		return p.parenthesis()
	}
	return p.target()
}

// parenthesis reads a cast, or an expression in parentheses.
func (p *parser) parenthesis() api.Node {
	t := p.take(p.at("("))
	if isType(p.peek().Text) {
		n := node(t, "cast", p.take(true).Text)
		p.pass(")")
		n.Kids = []api.Node{p.deeper(p.operand)}
		return n
	}
	n := p.deeper(p.expression)
	p.pass(")")
	return n
}

// target reads a variable, or an element of an array.
func (p *parser) target() api.Node {
	t := p.take(p.atName())
	n := node(t, "name", t.Text)
	if p.at("[") {
		p.pass("[")
		n.Kind = "index"
		n.Kids = []api.Node{p.deeper(p.expression)}
		p.pass("]")
	}
	return n
}
