package parse

import (
	"skua/api"
)

func (p *parser) block() api.Node {
	n := node(p.peek(), "block", "")
	p.pass("{")
	for !p.at("}") {
		read := p.reader()
		n.Kids = append(n.Kids, read())
	}
	p.pass("}")
	return n
}

// reader is what reads the statement that begins with the next token.
func (p *parser) reader() func() api.Node {
	word := p.peek().Text
	switch word {
	case "if":
		return p.choice
	case "while":
		return p.loop
	case "return":
		return p.leave
	case "assert", "assume":
		return p.claim
	}
	if isType(word) {
		return p.local
	}
	return p.action
}

func (p *parser) local() api.Node {
	n := p.declared("local", false)
	p.pass(";")
	return n
}

func (p *parser) choice() api.Node {
	n := p.guarded("if")
	if p.at("else") {
		p.pass("else")
		n.Kids = append(n.Kids, p.deeper(p.block))
	}
	return n
}

func (p *parser) loop() api.Node { return p.guarded("while") }

// guarded reads a keyword, an expression and a block.
func (p *parser) guarded(word string) api.Node {
	n := node(p.peek(), word, "")
	p.pass(word, "(")
	n.Kids = append(n.Kids, p.expression())
	p.pass(")")
	n.Kids = append(n.Kids, p.deeper(p.block))
	return n
}

func (p *parser) leave() api.Node {
	n := node(p.peek(), "return", "")
	p.pass("return")
	if !p.at(";") {
		n.Kids = append(n.Kids, p.expression())
	}
	p.pass(";")
	return n
}

// claim reads an assert or an assume.
func (p *parser) claim() api.Node {
	t := p.take(true)
	n := node(t, t.Text, "")
	p.pass("(")
	n.Kids = append(n.Kids, p.expression())
	p.pass(")", ";")
	return n
}

// action reads a statement that begins with a name.
func (p *parser) action() api.Node {
	if p.atCall() {
		n := p.call()
		p.pass(";")
		return n
	}
	n := node(p.peek(), "assign", "")
	n.Kids = append(n.Kids, p.target())
	p.pass("=")
	switch {
	case p.at("nondet"):
		p.pass("nondet", "(", ")")
		n.Kind = "nondet"
	case p.atCall():
		n.Kind = "result"
		n.Kids = append(n.Kids, p.call())
	default:
		n.Kids = append(n.Kids, p.expression())
	}
	p.pass(";")
	return n
}

// atCall is whether a name stands next, and a parenthesis behind it: no expression goes on so.
func (p *parser) atCall() bool {
	return p.atName() && len(p.rest) > 1 && p.rest[1].Text == "("
}

func (p *parser) call() api.Node {
	t := p.take(p.atName())
	n := node(t, "call", t.Text)
	n.Kids = p.commas(p.argument)
	return n
}

func (p *parser) argument() api.Node { return p.deeper(p.expression) }
