package check

import (
	"strings"

	"skua/api"
)

func (c *checker) block(n api.Node) []api.Stmt {
	var l []api.Stmt
	for _, k := range n.Kids {
		if k.Kind == "local" {
			c.local(k)
		} else {
			l = append(l, c.statement(k))
		}
	}
	return l
}

// local asks the other way round than of parameters, as the chapter names the name first here.
func (c *checker) local(n api.Node) {
	_, is := c.own[n.Text]
	need(!is, n, api.ErrCheckName)
	at := len(c.in.Vars)
	need(at < api.MaxVars, n, api.ErrCheckMany)
	v := declared(n)
	c.own[v.Name] = at
	c.in.Vars = append(c.in.Vars, v)
}

func (c *checker) statement(n api.Node) api.Stmt {
	s := api.Stmt{Op: strings.Clone(n.Kind), Line: n.Line, Col: n.Col}
	switch n.Kind {
	case "assign":
		to := c.target(n.Kids[0])
		s.Target = []api.Expr{to}
		s.Exprs = []api.Expr{c.expression(n.Kids[1], to.Type)}
	case "nondet":
		s.Target = []api.Expr{c.target(n.Kids[0])}
	case "call":
		s.Func = c.called(n)
		s.Exprs = c.arguments(s.Func, n.Kids)
	case "result":
		c.result(n, &s)
	case "return":
		c.leave(n, &s)
	default:
		c.guarded(n, &s)
	}
	return s
}

func (c *checker) result(n api.Node, s *api.Stmt) {
	s.Op = "call"
	to, call := c.target(n.Kids[0]), n.Kids[1]
	s.Target = []api.Expr{to}
	s.Func = c.called(call)
	need(c.prog.Funcs[s.Func].Type == to.Type, call, api.ErrCheckType)
	s.Exprs = c.arguments(s.Func, call.Kids)
}

// called is the function of a call that has as many arguments as that has parameters.
func (c *checker) called(n api.Node) int {
	at, is := c.funcs[n.Text]
	need(is, n, api.ErrCheckName)
	need(len(n.Kids) == c.prog.Funcs[at].Params, n, api.ErrCheckCount)
	return at
}

func (c *checker) arguments(f int, l []api.Node) []api.Expr {
	var out []api.Expr
	for i, n := range l {
		out = append(out, c.expression(n, c.prog.Funcs[f].Vars[i].Type))
	}
	return out
}

func (c *checker) leave(n api.Node, s *api.Stmt) {
	void := c.in.Type == api.Type{}
	need(void == (len(n.Kids) == 0), n, api.ErrCheckType)
	s.Exprs = c.expressions(n.Kids, c.in.Type)
}

// guarded types what begins with an expression that is true or false: if, while, assert and assume.
func (c *checker) guarded(n api.Node, s *api.Stmt) {
	s.Exprs = c.expressions(n.Kids[:1], boolean)
	if len(n.Kids) > 1 {
		s.Then = c.block(n.Kids[1])
	}
	if len(n.Kids) > 2 {
		s.Else = c.block(n.Kids[2])
	}
}

// target is what a statement gives something to, of whatever type that is.
func (c *checker) target(n api.Node) api.Expr {
	x := c.place(n)
	x.Kids = c.index(n.Kids)
	return x
}
