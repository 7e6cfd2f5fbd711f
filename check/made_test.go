package check

import (
	"math/rand/v2"
	"slices"
	"strconv"
	"strings"
	"testing"

	"skua/api"
	"skua/word"
)

// allTypes is written out again, so that a fault in the package's own reading is seen.
var allTypes = []api.Type{
	{Width: 1}, {Width: 8}, {Width: 16}, {Width: 32}, {Width: 64},
	{Width: 8, Signed: true}, {Width: 16, Signed: true}, {Width: 32, Signed: true}, {Width: 64, Signed: true},
}

const (
	reckoning  = "+ - * / % << >>"
	joining    = "& | ^"
	equalities = "== !="
	orders     = "< <= > >="
	truths     = "&& ||"
)

func among(op, ops string) bool { return slices.Contains(strings.Fields(ops), op) }

// wants is what a fault that was made is to be told as: the tokens in place of an expression, which one of them is told, and the error.
type wants struct {
	tokens string
	at     int
	e      api.Errno
}

// maker writes a program that is right by chance, and what it is, typed; the same one for the same seeds. What stands between its tokens has a seed of its own.
type maker struct {
	r, gaps   *rand.Rand
	text      strings.Builder
	line, col int
	p         api.Prog
	in        *api.Func

	faults        bool
	made          wants // the fault that was made, if there is one
	atLine, atCol int   // where it is to be told
	between       []string
}

func newMaker(seed, gaps uint64, faults bool) *maker {
	m := &maker{r: rand.New(rand.NewPCG(seed, 4)), gaps: rand.New(rand.NewPCG(gaps, 5)), line: 1, col: 1, faults: faults}
	m.between = []string{" ", "  ", "\t", "\n", "\r\n", " // x = $\n", "\n\n \t", "//\n"}
	m.program()
	return m
}

func (m *maker) pick(l string) string {
	words := strings.Fields(l)
	return words[m.r.IntN(len(words))]
}

func (m *maker) chance(of int) bool { return m.r.IntN(of) == 0 }

func (m *maker) numberType() api.Type { return allTypes[1+m.r.IntN(len(allTypes)-1)] }

func (m *maker) anyType() api.Type { return allTypes[m.r.IntN(len(allTypes))] }

// put writes a token, and tells where it stands.
func (m *maker) put(token string) (int, int) {
	line, col := m.line, m.col
	gap := m.between[m.gaps.IntN(len(m.between))]
	if token == "/" {
		gap = " " + gap // else it would begin a comment
	}
	for _, b := range []byte(token + gap) {
		m.text.WriteByte(b)
		m.col++
		if b == '\n' {
			m.line, m.col = m.line+1, 1
		}
	}
	return line, col
}

func (m *maker) puts(tokens string) {
	for _, x := range strings.Fields(tokens) {
		m.put(x)
	}
}

// program makes up the heads first, as bodies name them.
func (m *maker) program() {
	names := strings.Fields("a b c d e f g h i j k l")
	m.r.Shuffle(len(names), func(i, j int) { names[i], names[j] = names[j], names[i] })
	var items []bool // whether it is a function
	for i, name := range names[:2+m.r.IntN(len(names)-2)] {
		items = append(items, i%3 == 2)
		if i%3 == 2 {
			m.head(name, m.r.IntN(4))
			continue
		}
		v := api.Var{Name: name, Type: m.anyType()}
		if m.chance(3) {
			v.Size = 1 + m.r.IntN(api.MaxArray/4)
		}
		m.p.Globals = append(m.p.Globals, v)
	}
	m.p.Main = len(m.p.Funcs)
	m.head("main", 0)
	items = append(items, true)
	m.r.Shuffle(len(items), func(i, j int) { items[i], items[j] = items[j], items[i] })
	g, f := 0, 0
	for _, function := range items {
		if function {
			m.function(&m.p.Funcs[f])
			f++
		} else {
			m.global(m.p.Globals[g])
			g++
		}
	}
}

func (m *maker) head(name string, params int) {
	f := api.Func{Name: name, Type: m.anyType(), Params: params}
	if m.chance(3) {
		f.Type = api.Type{}
	}
	for range params {
		f.Vars = append(f.Vars, api.Var{Name: m.newName(f.Vars), Type: m.anyType()})
	}
	m.p.Funcs = append(m.p.Funcs, f)
}

// newName is one that none of these variables has; globals and functions may have it.
func (m *maker) newName(l []api.Var) string {
	for {
		name := m.pick("a b c d e f g h main p q r s t")
		if !slices.ContainsFunc(l, func(v api.Var) bool { return v.Name == name }) {
			return name
		}
	}
}

func (m *maker) global(v api.Var) {
	m.puts(typeName(v.Type) + " " + v.Name)
	if v.Size > 0 {
		m.puts("[ " + strconv.Itoa(v.Size) + " ]")
	}
	m.put(";")
}

func (m *maker) function(f *api.Func) {
	m.in = f
	m.puts(typeName(f.Type) + " " + f.Name + " (")
	for i, v := range f.Vars {
		if i > 0 {
			m.put(",")
		}
		m.puts(typeName(v.Type) + " " + v.Name)
	}
	m.put(")")
	f.Body = m.block(3)
}

func (m *maker) block(size int) []api.Stmt {
	m.put("{")
	var l []api.Stmt
	for range m.r.IntN(2*size + 1) {
		if len(m.in.Vars) < 8 && m.chance(5) {
			v := api.Var{Name: m.newName(m.in.Vars), Type: m.anyType()}
			m.puts(typeName(v.Type) + " " + v.Name + " ;")
			m.in.Vars = append(m.in.Vars, v)
		} else {
			l = append(l, m.statement(size))
		}
	}
	m.put("}")
	return l
}

func (m *maker) statement(size int) (s api.Stmt) {
	s.Op = m.pick("assign assign nondet call call if while return assert assume")
	s.Line, s.Col = m.line, m.col
	one := func(x api.Expr) []api.Expr { return []api.Expr{m.write(x)} }
	switch s.Op {
	case "assign", "nondet":
		to := m.target()
		if to.Op == "" {
			return m.returns(s)
		}
		s.Target = one(to)
		m.put("=")
		if s.Op == "nondet" {
			m.puts("nondet ( )")
		} else {
			s.Exprs = one(m.root(to.Type))
		}
	case "call":
		s.Func = m.r.IntN(len(m.p.Funcs))
		if l := m.places(func(v api.Var) bool { return v.Type == m.p.Funcs[s.Func].Type }); len(l) > 0 && m.chance(2) {
			s.Target = one(m.at(l))
			m.put("=")
		}
		s.Exprs = m.call(m.p.Funcs[s.Func])
	case "return":
		return m.returns(s)
	default:
		m.puts(s.Op + " (")
		s.Exprs = one(m.root(boolType))
		m.put(")")
		if s.Op == "if" || s.Op == "while" {
			s.Then = m.block(size - 1)
			if s.Op == "if" && m.chance(2) {
				m.put("else")
				s.Else = m.block(size - 1)
			}
			return s
		}
	}
	m.put(";")
	return s
}

var boolType = api.Type{Width: 1}

func (m *maker) returns(s api.Stmt) api.Stmt {
	s.Op = "return"
	m.put("return")
	if m.in.Type.Width > 0 {
		s.Exprs = []api.Expr{m.write(m.root(m.in.Type))}
	}
	m.put(";")
	return s
}

func (m *maker) call(f api.Func) []api.Expr {
	m.puts(f.Name + " (")
	var l []api.Expr
	for i, v := range f.Vars[:f.Params] {
		if i > 0 {
			m.put(",")
		}
		l = append(l, m.write(m.root(v.Type)))
	}
	m.put(")")
	return l
}

// places is all variables of a kind that may be named here.
func (m *maker) places(is func(v api.Var) bool) []api.Expr {
	var l []api.Expr
	own := map[string]bool{}
	add := func(i int, v api.Var, global bool) {
		x := api.Expr{Op: "var", Type: v.Type, Var: i, Global: global}
		if v.Size > 0 {
			x.Op = "index"
		}
		if is(v) {
			l = append(l, x)
		}
	}
	for i, v := range m.in.Vars {
		own[v.Name] = true
		add(i, v, false)
	}
	for i, v := range m.p.Globals {
		if !own[v.Name] {
			add(i, v, true)
		}
	}
	return l
}

// at is one of some variables, or an element of it.
func (m *maker) at(l []api.Expr) api.Expr {
	x := l[m.r.IntN(len(l))]
	if x.Op == "index" {
		x.Kids = []api.Expr{m.free(1, m.numberType())}
	}
	return x
}

func (m *maker) target() api.Expr {
	l := m.places(func(v api.Var) bool { return true })
	if len(l) == 0 {
		return api.Expr{}
	}
	return m.at(l)
}

// bare is whether an expression suggests no type.
func bare(x api.Expr) bool {
	if x.Op == "num" {
		return x.Type.Width > 1
	}
	return among(x.Op, reckoning+" "+joining+" u- u~") && !slices.ContainsFunc(x.Kids, func(k api.Expr) bool { return !bare(k) })
}

// free is an expression of a type that it suggests: of a given one, or, where it suggests none, of u64.
func (m *maker) free(size int, t api.Type) api.Expr {
	x := m.expr(t, size)
	if bare(x) {
		return m.expr(api.Type{Width: 64}, size)
	}
	return x
}

// root is an expression that should have a type, whatever it suggests itself.
func (m *maker) root(t api.Type) api.Expr {
	x := m.expr(t, m.r.IntN(4))
	if m.faults && m.made.tokens == "" && m.chance(3) {
		var l []*api.Expr
		sites(&x, true, &l)
		if len(l) > 0 {
			at := l[m.r.IntN(len(l))]
			m.made = m.fault(at.Type)
			*at = api.Expr{Op: "fault"}
		}
	}
	return x
}

// sites is all expressions in an expression whose types stand fast, whatever stands in their place.
func sites(x *api.Expr, fast bool, l *[]*api.Expr) {
	if fast {
		*l = append(*l, x)
	}
	kids := func(i int) bool { return fast }
	switch {
	case among(x.Op, truths+" u!"):
		kids = func(i int) bool { return true }
	case among(x.Op, equalities+" "+orders):
		other := !bare(x.Kids[0])
		kids = func(i int) bool { return i == 1 && other }
	case x.Op == "cast" || x.Op == "index":
		kids = func(i int) bool { return false }
	}
	for i := range x.Kids {
		sites(&x.Kids[i], kids(i), l)
	}
}

// fault is what is wrong where an expression of a type should stand.
func (m *maker) fault(t api.Type) wants {
	other := m.anyType()
	for other == t {
		other = m.anyType()
	}
	l := []wants{
		{"nowhere", 0, api.ErrCheckName}, {"nowhere [ 0 ]", 0, api.ErrCheckName}, {"( " + typeName(other) + " ) 1", 0, api.ErrCheckType},
		{"( " + typeName(t) + " ) nowhere", 3, api.ErrCheckName}, {"( " + typeName(t) + " ) ( 1 == true )", 4, api.ErrCheckType},
	}
	if t == boolType {
		l = append(l, []wants{
			{"7", 0, api.ErrCheckType}, {"true + true", 1, api.ErrCheckType}, {"- true", 0, api.ErrCheckType}, {"true & 1", 2, api.ErrCheckType}, {"! 1", 1, api.ErrCheckType},
			{"true < false", 1, api.ErrCheckType}, {"1 + nowhere == 1", 2, api.ErrCheckName}, {"true == 1", 2, api.ErrCheckType}, {"( u8 ) 1 < 256", 5, api.ErrCheckType},
		}...)
	} else {
		l = append(l, []wants{
			{"true", 0, api.ErrCheckType}, {"1 == 1", 1, api.ErrCheckType}, {"! nowhere", 0, api.ErrCheckType}, {"true && true", 1, api.ErrCheckType}, {"1 + true", 2, api.ErrCheckType}, {"1 | ( 2 < nowhere )", 4, api.ErrCheckType},
		}...)
		if t.Width < 64 {
			l = append(l, wants{strconv.FormatUint(1<<t.Width, 10), 0, api.ErrCheckType})
		}
	}
	for _, x := range m.places(func(v api.Var) bool { return true }) {
		name := m.variable(x).Name
		if x.Op == "index" {
			l = append(l, wants{name, 0, api.ErrCheckType})
			if x.Type == t {
				l = append(l, wants{name + " [ true ]", 2, api.ErrCheckType}, wants{name + " [ 1 + nowhere ]", 4, api.ErrCheckName})
			} else {
				l = append(l, wants{name + " [ 0 ]", 0, api.ErrCheckType})
			}
			continue
		}
		l = append(l, wants{name + " [ nowhere ]", 0, api.ErrCheckType})
		if x.Type != t {
			l = append(l, wants{name, 0, api.ErrCheckType})
		}
	}
	return l[m.r.IntN(len(l))]
}

// expr is an expression of a type, without places.
func (m *maker) expr(t api.Type, size int) api.Expr {
	x := api.Expr{Op: "num", Type: t}
	of := func(op string, kids ...api.Expr) api.Expr {
		x.Op, x.Kids = op, kids
		return x
	}
	if l := m.places(func(v api.Var) bool { return v.Type == t }); len(l) > 0 && m.chance(3) && size > 0 {
		return m.at(l)
	}
	switch kind := m.r.IntN(6); {
	case size <= 0:
		x.Num = word.Norm(t, m.r.Uint64()>>m.r.IntN(64))
		return x
	case kind == 0:
		return of("cast", m.free(size-1, m.anyType()))
	case kind == 1 && t == boolType:
		return of("u!", m.expr(t, size-1))
	case kind == 1:
		return of(m.pick("u- u~"), m.expr(t, size-1))
	case kind == 2 && t == boolType:
		return of(m.pick(truths), m.expr(t, size-1), m.expr(t, size-1))
	case kind <= 4 && t == boolType:
		op, s := m.pick(equalities+" "+orders), m.numberType()
		if among(op, equalities) {
			s = m.anyType()
		}
		left, right := m.expr(s, size-1), m.expr(s, size-1)
		if bare(left) && bare(right) {
			s = api.Type{Width: 64}
			left, right = m.expr(s, size-1), m.expr(s, size-1)
		}
		return of(op, left, right)
	case t == boolType:
		return of(m.pick(joining), m.expr(t, size-1), m.expr(t, size-1))
	}
	return of(m.pick(reckoning+" "+joining), m.expr(t, size-1), m.expr(t, size-1))
}

func (m *maker) variable(x api.Expr) api.Var {
	if x.Global {
		return m.p.Globals[x.Var]
	}
	return m.in.Vars[x.Var]
}

// kid writes an operand, in parentheses wherever it might need them.
func (m *maker) kid(x api.Expr) api.Expr {
	if x.Op == "var" || x.Op == "index" || x.Op == "num" || x.Op == "fault" {
		return m.write(x)
	}
	m.put("(")
	x = m.write(x)
	m.put(")")
	return x
}

// write writes an expression, and tells it with places.
func (m *maker) write(x api.Expr) api.Expr {
	x.Kids = slices.Clone(x.Kids)
	switch x.Op {
	case "fault":
		m.put("(")
		for i, token := range strings.Fields(m.made.tokens) {
			line, col := m.put(token)
			if i == m.made.at {
				m.atLine, m.atCol = line, col
			}
		}
		m.put(")")
	case "num":
		digits := strconv.FormatUint(x.Num, 10)
		if x.Type == boolType {
			digits = []string{"false", "true"}[x.Num]
		} else if m.chance(3) {
			digits = "0x" + strconv.FormatUint(x.Num, 16)
		}
		x.Line, x.Col = m.put(digits)
	case "var", "index":
		x.Line, x.Col = m.put(m.variable(x).Name)
		for i, k := range x.Kids {
			m.put("[")
			x.Kids[i] = m.write(k)
			m.put("]")
		}
	case "cast":
		x.Line, x.Col = m.put("(")
		m.puts(typeName(x.Type) + " )")
		x.Kids[0] = m.kid(x.Kids[0])
	case "u!", "u-", "u~":
		x.Line, x.Col = m.put(x.Op[1:])
		x.Kids[0] = m.kid(x.Kids[0])
	default:
		x.Kids[0] = m.kid(x.Kids[0])
		x.Line, x.Col = m.put(x.Op)
		x.Kids[1] = m.kid(x.Kids[1])
	}
	return x
}

// P4.1, P4.3: programs that are right by chance, whatever stands between their tokens.
func TestMadePrograms(t *testing.T) {
	for seed := range uint64(3000) {
		var ways []api.Prog
		for gaps := range uint64(2) {
			m := newMaker(seed, gaps, false)
			p, line, col, e := Read(m.text.String())
			if line != 0 || col != 0 || e != api.OK {
				t.Fatalf("%s: %d, %d, %d", m.text.String(), line, col, e)
			}
			if !equal(p, m.p) || !Same(p, m.p) {
				t.Fatalf("%s:\n%s, want\n%s", m.text.String(), (teller{true}).prog(p), (teller{true}).prog(m.p))
			}
			ways = append(ways, p)
		}
		if a, b := (teller{}).prog(ways[0]), (teller{}).prog(ways[1]); a != b {
			t.Fatalf("%s, %s", a, b)
		}
	}
}

// P4.1: programs with one fault.
func TestMadeFaults(t *testing.T) {
	made := 0
	for seed := range uint64(8000) {
		m := newMaker(seed, seed, true)
		if m.made.tokens == "" {
			continue
		}
		made++
		p, line, col, e := Read(m.text.String())
		if !equal(p, api.Prog{}) || line != m.atLine || col != m.atCol || e != m.made.e {
			t.Fatalf("%s: %d, %d, %d, want %d, %d, %v", m.text.String(), line, col, e, m.atLine, m.atCol, m.made)
		}
	}
	if made < 2000 {
		t.Error("too few faults", made)
	}
}
