package check

import (
	"strings"

	"skua/api"
	"skua/word"
)

// rule is what an operator asks of types.
type rule struct {
	truth    bool // what it makes is true or false, whatever its operands are
	operands func(kids []api.Node, t api.Type) (api.Type, bool)
}

// operators is the rules of all operators. A rule's closure tells the type that all operands should have, if what the operator makes should be of a type; false: it can't be.
func (c *checker) operators() map[string]rule {
	truths := func(_ []api.Node, t api.Type) (api.Type, bool) { return boolean, t == boolean }
	numbers := func(_ []api.Node, t api.Type) (api.Type, bool) { return t, t != boolean }
	either := func(_ []api.Node, t api.Type) (api.Type, bool) { return t, true }
	// The operands are asked what they suggest only if the comparison may stand there: else a name in them that isn't there would be told ahead of it.
	equal := func(kids []api.Node, t api.Type) (api.Type, bool) {
		if t != boolean {
			return t, false
		}
		return c.common(kids), true
	}
	ordered := func(kids []api.Node, t api.Type) (api.Type, bool) {
		of, is := equal(kids, t)
		return of, is && of != boolean
	}
	rules := map[string]rule{}
	put := func(r rule, ops ...string) {
		for _, op := range ops {
			rules[op] = r
		}
	}
	put(rule{true, truths}, "u!", "&&", "||")
	put(rule{true, equal}, "==", "!=")
	put(rule{true, ordered}, "<", "<=", ">", ">=")
	put(rule{false, numbers}, "u-", "u~", "+", "-", "*", "/", "%", "<<", ">>")
	put(rule{false, either}, "&", "|", "^")
	return rules
}

// operator is what the operator of a unary or a binary node is called.
func operator(n api.Node) string {
	if n.Kind == "unary" {
		return "u" + n.Text
	}
	return strings.Clone(n.Text)
}

// expression is a node as an expression of a type.
func (c *checker) expression(n api.Node, t api.Type) api.Expr {
	x := api.Expr{Op: "num", Type: t, Line: n.Line, Col: n.Col}
	switch n.Kind {
	case "num":
		need(t != boolean && word.Norm(t, n.Num) == n.Num, n, api.ErrCheckType)
		x.Num = n.Num
	case "true", "false":
		need(t == boolean, n, api.ErrCheckType)
		if n.Kind == "true" {
			x.Num = 1
		}
	case "name", "index":
		x = c.place(n)
		need(x.Type == t, n, api.ErrCheckType)
		x.Kids = c.index(n.Kids)
	case "cast":
		need(typed(n) == t, n, api.ErrCheckType)
		x.Op, x.Kids = "cast", c.expressions(n.Kids, c.common(n.Kids))
	default:
		x.Op = operator(n)
		of, is := c.rules[x.Op].operands(n.Kids, t)
		need(is, n, api.ErrCheckType)
		x.Kids = c.expressions(n.Kids, of)
	}
	return x
}

func (c *checker) expressions(l []api.Node, t api.Type) []api.Expr {
	var out []api.Expr
	for _, n := range l {
		out = append(out, c.expression(n, t))
	}
	return out
}

// place is the variable or the element that a node names, as yet without the index.
func (c *checker) place(n api.Node) api.Expr {
	v, at, global := c.find(n)
	need((n.Kind == "index") == (v.Size > 0), n, api.ErrCheckType)
	op := "var"
	if n.Kind == "index" {
		op = "index"
	}
	return api.Expr{Op: op, Type: v.Type, Var: at, Global: global, Line: n.Line, Col: n.Col}
}

// index is what stands in the brackets of an element; of a variable nothing.
func (c *checker) index(l []api.Node) []api.Expr {
	if len(l) == 0 {
		return nil
	}
	t := c.common(l)
	need(t != boolean, l[0], api.ErrCheckType)
	return c.expressions(l, t)
}

// find is the variable of a node's name, where it stands, and whether it is a global.
func (c *checker) find(n api.Node) (api.Var, int, bool) {
	if at, is := c.own[n.Text]; is {
		return c.in.Vars[at], at, false
	}
	at, is := c.globals[n.Text]
	need(is, n, api.ErrCheckName)
	return c.prog.Globals[at], at, true
}

// common is the type that operands of one type should have: the one that they suggest.
func (c *checker) common(l []api.Node) api.Type {
	t := c.first(l)
	if t == (api.Type{}) {
		return wide
	}
	return t
}

// first is the type that the first one of some nodes suggests that suggests one; the zero value: none does.
func (c *checker) first(l []api.Node) api.Type {
	for _, n := range l {
		if t := c.suggests(n); t != (api.Type{}) {
			return t
		}
	}
	return api.Type{}
}

// suggests doesn't go into what is asked for its own type later: so no node is asked twice, however deep they stand in one another.
func (c *checker) suggests(n api.Node) api.Type {
	switch n.Kind {
	case "num":
		return api.Type{}
	case "true", "false":
		return boolean
	case "name", "index":
		v, _, _ := c.find(n)
		return v.Type
	case "cast":
		return typed(n)
	}
	if c.rules[operator(n)].truth {
		return boolean
	}
	return c.first(n.Kids)
}
