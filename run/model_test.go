package run

import (
	"math/big"
	"slices"

	"skua/api"
)

// model goes a run in another way, to hold Run against: numbers have no bound, statements stand in Go's own calls, and an end is handed back by all of these.
type model struct {
	p       api.Prog
	draws   []uint64
	limit   int
	globals [][]*big.Int
	vars    []*big.Int
	answer  *big.Int
	// moments is what a run ends with that is given 0, 1, 2 .. steps; the last one is given as many as it needs, or the limit.
	moments []api.Outcome
	drawn   int
}

// after tells what is done behind a statement.
type after int

const (
	onward after = iota
	returned
	ended
)

func zero() *big.Int { return new(big.Int) }

func modelled(p api.Prog, draws []uint64, limit int) []api.Outcome {
	m := &model{p: p, draws: draws, limit: limit}
	for _, v := range p.Globals {
		var cells []*big.Int
		for range max(v.Size, 1) {
			cells = append(cells, zero())
		}
		m.globals = append(m.globals, cells)
	}
	if m.function(p.Funcs[p.Main], nil) != ended {
		m.tell(api.EndDone, 0, 0, len(m.moments))
	}
	return m.moments
}

func (m *model) tell(end, line, col, steps int) after {
	o := api.Outcome{End: end, Line: line, Col: col, Steps: steps, Draws: m.drawn}
	for i, cells := range m.globals {
		for _, v := range cells {
			o.Globals = append(o.Globals, plain(v, m.p.Globals[i].Type.Width).Uint64())
		}
	}
	m.moments = append(m.moments, o)
	return ended
}

// bad ends a run in the middle of a statement, which was begun.
func (m *model) bad(end, line, col int) after { return m.tell(end, line, col, len(m.moments)) }

// plain is a number modulo 2 to its width.
func plain(v *big.Int, width int) *big.Int {
	of := new(big.Int).Lsh(big.NewInt(1), uint(width))
	return of.Mod(v, of)
}

// fit is what a number stands for in a type.
func fit(t api.Type, v *big.Int) *big.Int {
	v = plain(v, t.Width)
	if t.Signed && v.Bit(t.Width-1) == 1 {
		v.Sub(v, new(big.Int).Lsh(big.NewInt(1), uint(t.Width)))
	}
	return v
}

func (m *model) function(f api.Func, args []*big.Int) after {
	was := m.vars
	m.vars = slices.Clone(args)
	for len(m.vars) < len(f.Vars) {
		m.vars = append(m.vars, zero())
	}
	next := m.block(f.Body)
	if next == onward {
		m.answer = zero()
	}
	m.vars = was
	return next
}

func (m *model) block(l []api.Stmt) after {
	for _, s := range l {
		if next := m.statement(s); next != onward {
			return next
		}
	}
	return onward
}

func (m *model) statement(s api.Stmt) after {
	m.tell(api.EndSteps, s.Line, s.Col, len(m.moments))
	if len(m.moments) > m.limit {
		return ended
	}
	put := func(v *big.Int) {}
	if len(s.Target) > 0 {
		to := s.Target[0]
		at, next := m.element(to)
		if next != onward {
			return next
		}
		cells := m.cells(to)
		put = func(v *big.Int) { cells[at] = v }
	}
	if s.Op == "nondet" {
		if m.drawn == len(m.draws) {
			return m.bad(api.EndDraws, s.Line, s.Col)
		}
		put(fit(s.Target[0].Type, new(big.Int).SetUint64(m.draws[m.drawn])))
		m.drawn++
		return onward
	}
	var vals []*big.Int
	for _, x := range s.Exprs {
		v, next := m.expr(x)
		if next != onward {
			return next
		}
		vals = append(vals, v)
	}
	switch s.Op {
	case "assign":
		put(vals[0])
	case "call":
		next := m.function(m.p.Funcs[s.Func], vals)
		if next == ended {
			return ended
		}
		put(m.answer)
	case "return":
		m.answer = append(vals, zero())[0]
		return returned
	default:
		return m.guarded(s, vals[0].Sign() != 0)
	}
	return onward
}

func (m *model) guarded(s api.Stmt, holds bool) after {
	switch {
	case s.Op == "assert" && !holds:
		return m.bad(api.EndAssert, s.Line, s.Col)
	case s.Op == "assume" && !holds:
		return m.bad(api.EndAssume, s.Line, s.Col)
	case s.Op == "if" && !holds:
		return m.block(s.Else)
	case s.Op == "while" && holds:
		if next := m.block(s.Then); next != onward {
			return next
		}
		return m.statement(s)
	case s.Op == "if":
		return m.block(s.Then)
	}
	return onward
}

// cells is what a variable's elements are; of what is no array it is one.
func (m *model) cells(x api.Expr) []*big.Int {
	if x.Global {
		return m.globals[x.Var]
	}
	return m.vars[x.Var : x.Var+1]
}

// element is which one of a variable's elements an expression names; 0 of what is no array.
func (m *model) element(x api.Expr) (int, after) {
	if x.Op != "index" {
		return 0, onward
	}
	at, next := m.expr(x.Kids[0])
	if next != onward {
		return 0, next
	}
	if !at.IsInt64() || at.Int64() < 0 || at.Int64() >= int64(len(m.cells(x))) {
		return 0, m.bad(api.EndIndex, x.Line, x.Col)
	}
	return int(at.Int64()), onward
}

func number(is bool) *big.Int {
	if is {
		return big.NewInt(1)
	}
	return zero()
}

func (m *model) expr(x api.Expr) (*big.Int, after) {
	switch x.Op {
	case "num":
		return fit(x.Type, new(big.Int).SetUint64(x.Num)), onward
	case "var", "index":
		at, next := m.element(x)
		if next != onward {
			return nil, next
		}
		return m.cells(x)[at], onward
	}
	a, next := m.expr(x.Kids[0])
	if next != onward {
		return nil, next
	}
	switch x.Op {
	case "cast":
		if x.Type.Width == 1 {
			return number(a.Sign() != 0), onward
		}
		return fit(x.Type, a), onward
	case "u!":
		return number(a.Sign() == 0), onward
	case "u-":
		return fit(x.Type, new(big.Int).Neg(a)), onward
	case "u~":
		return fit(x.Type, new(big.Int).Not(a)), onward
	case "&&":
		if a.Sign() == 0 {
			return a, onward
		}
		return m.expr(x.Kids[1])
	case "||":
		if a.Sign() != 0 {
			return a, onward
		}
		return m.expr(x.Kids[1])
	}
	b, next := m.expr(x.Kids[1])
	if next != onward {
		return nil, next
	}
	if (x.Op == "/" || x.Op == "%") && b.Sign() == 0 {
		return nil, m.bad(api.EndZero, x.Line, x.Col)
	}
	return binary(x, a, b), onward
}

func binary(x api.Expr, a, b *big.Int) *big.Int {
	v, c := zero(), a.Cmp(b)
	far := plain(b, x.Type.Width)
	if !far.IsUint64() || far.Uint64() > 64 {
		far.SetUint64(64)
	}
	switch x.Op {
	case "==":
		return number(c == 0)
	case "!=":
		return number(c != 0)
	case "<":
		return number(c < 0)
	case "<=":
		return number(c <= 0)
	case ">":
		return number(c > 0)
	case ">=":
		return number(c >= 0)
	case "+":
		v.Add(a, b)
	case "-":
		v.Sub(a, b)
	case "*":
		v.Mul(a, b)
	case "/":
		v.Quo(a, b)
	case "%":
		v.Rem(a, b)
	case "&":
		v.And(a, b)
	case "|":
		v.Or(a, b)
	case "^":
		v.Xor(a, b)
	case "<<":
		v.Lsh(a, uint(far.Uint64()))
	case ">>":
		v.Rsh(a, uint(far.Uint64()))
	}
	return fit(x.Type, v)
}
