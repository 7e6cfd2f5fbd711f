package run

import (
	"math"
	"math/rand/v2"
	"slices"
	"strconv"
	"strings"
	"testing"

	"skua/api"
	"skua/check"
	"skua/word"
)

// maker writes a right program by chance, whose runs go on for a while: what it divides by mostly isn't 0, what it asserts is mostly so.
type maker struct {
	*rand.Rand
	text  strings.Builder
	funcs []api.Func
	all   []api.Var // globals
	own   []api.Var // of the function that is being written
	in    api.Func
}

func (m *maker) of(l ...string) string { return l[m.IntN(len(l))] }

func (m *maker) one(in int) bool { return m.IntN(in) == 0 }

func (m *maker) kind() api.Type {
	t, _ := word.Of(m.of("bool", "u8", "u8", "u16", "u32", "u64", "i8", "i8", "i16", "i32", "i64"))
	return t
}

func (m *maker) number() api.Type {
	for {
		if t := m.kind(); t.Width > 1 {
			return t
		}
	}
}

func (m *maker) put(l ...string) {
	for _, s := range l {
		m.text.WriteString(s)
	}
}

func made(seed uint64) string {
	m := &maker{Rand: rand.New(rand.NewPCG(seed, 55))}
	for i := range 1 + m.IntN(5) {
		v := api.Var{Name: "g" + strconv.Itoa(i), Type: m.kind()}
		size := ""
		if m.one(3) {
			v.Size = 1 + m.IntN(5)
			size = "[" + strconv.Itoa(v.Size) + "]"
		}
		m.all = append(m.all, v)
		m.put(word.Name(v.Type), " ", v.Name, size, ";\n")
	}
	for i := range m.IntN(4) {
		f := api.Func{Name: "f" + strconv.Itoa(i), Type: m.kind()}
		if m.one(3) {
			f.Type = api.Type{}
		}
		for k := range m.IntN(3) {
			f.Vars = append(f.Vars, api.Var{Name: "p" + strconv.Itoa(k), Type: m.kind()})
		}
		m.funcs = append(m.funcs, f)
	}
	m.funcs = append(m.funcs, api.Func{Name: "main"})
	for _, f := range m.funcs {
		m.function(f)
	}
	return m.text.String()
}

func (m *maker) function(f api.Func) {
	m.in, m.own = f, slices.Clone(f.Vars)
	of := "void"
	if f.Type.Width > 0 {
		of = word.Name(f.Type)
	}
	var params []string
	for _, v := range f.Vars {
		params = append(params, word.Name(v.Type)+" "+v.Name)
	}
	m.put(of, " ", f.Name, "(", strings.Join(params, ", "), ") {\n")
	for range m.IntN(3) {
		m.local()
	}
	if f.Name == "main" {
		m.block(4)
	}
	m.block(4)
	m.put("}\n")
}

func (m *maker) local() {
	v := api.Var{Name: "l" + strconv.Itoa(len(m.own)), Type: m.kind()}
	m.own = append(m.own, v)
	m.put(word.Name(v.Type), " ", v.Name, ";\n")
}

func (m *maker) block(size int) {
	for range 1 + m.IntN(size+1) {
		m.statement(size)
	}
}

func (m *maker) braced(size int) {
	m.put("{\n")
	m.rest(size)
}

// rest is what stands in a block that has begun.
func (m *maker) rest(size int) {
	if size > 0 {
		m.block(size)
	}
	m.put("}\n")
}

func (m *maker) statement(size int) {
	switch to, t := m.target(); m.IntN(14) {
	case 0, 1, 2:
		m.put(to, " = ", m.expr(t, 3), ";\n")
	case 3, 4:
		m.put(to, " = nondet();\n")
	case 5, 6, 7:
		f := m.funcs[m.IntN(len(m.funcs))]
		m.called(f)
	case 8, 9:
		m.put("if (", m.expr(boolean, 3), ") ")
		m.braced(size - 1)
		if m.one(2) {
			m.put("else ")
			m.braced(size - 1)
		}
	case 10, 11:
		m.loop(size)
	case 12:
		if m.one(3) {
			m.returns()
		} else {
			m.local()
		}
	case 13:
		of := m.expr(boolean, 2)
		if !m.one(4) {
			of = "(" + of + ") || true"
		}
		m.put(m.of("assert", "assume"), "(", of, ");\n")
	}
}

// loop mostly ends some time.
func (m *maker) loop(size int) {
	of := m.expr(boolean, 2)
	if m.one(3) || len(m.own) == 0 {
		m.put("while (", of, ") ")
		m.braced(size - 1)
		return
	}
	v := m.own[m.IntN(len(m.own))]
	if v.Type.Width == 1 {
		m.put("while (", v.Name, ") { ", v.Name, " = ", m.expr(boolean, 1), ";\n")
	} else {
		m.put("while (", v.Name, " % 7 != 0) { ", v.Name, " = ", v.Name, m.of(" - 1", " + 1", " / 2"), ";\n")
	}
	m.rest(size - 1)
}

func (m *maker) returns() {
	if m.in.Type.Width == 0 {
		m.put("return;\n")
	} else {
		m.put("return ", m.expr(m.in.Type, 2), ";\n")
	}
}

func (m *maker) called(f api.Func) {
	if to := m.places(f.Type); len(to) > 0 && !m.one(4) {
		m.put(to[m.IntN(len(to))], " = ")
	}
	var args []string
	for _, v := range f.Vars {
		args = append(args, m.expr(v.Type, 2))
	}
	m.put(f.Name, "(", strings.Join(args, ", "), ");\n")
}

// places is all variables of a type, and an element of each array.
func (m *maker) places(t api.Type) []string {
	var l []string
	for _, v := range m.own {
		if v.Type == t {
			l = append(l, v.Name)
		}
	}
	for _, v := range m.all {
		if v.Type == t {
			l = append(l, m.element(v))
		}
	}
	return l
}

func (m *maker) target() (string, api.Type) {
	v := m.all[m.IntN(len(m.all))]
	if len(m.own) > 0 && m.one(2) {
		v = m.own[m.IntN(len(m.own))]
	}
	return m.element(v), v.Type
}

func (m *maker) element(v api.Var) string {
	if v.Size == 0 {
		return v.Name
	}
	at := strconv.Itoa(m.IntN(v.Size))
	switch m.IntN(8) {
	case 0:
		at = m.simple(m.number())
	case 1, 2, 3:
		at = "(" + m.of("u8", "u16", "u32", "u64") + ")" + m.simple(m.number()) + " % " + strconv.Itoa(v.Size)
	}
	return v.Name + "[" + at + "]"
}

// simple is an expression without arrays, so that elements' indexes don't go on for ever.
func (m *maker) simple(t api.Type) string {
	for _, v := range m.own {
		if v.Type == t && m.one(2) {
			return v.Name
		}
	}
	for _, v := range m.all {
		if v.Type == t && v.Size == 0 && m.one(2) {
			return v.Name
		}
	}
	return "(" + word.Name(t) + ")" + m.digits(t)
}

var boolean = api.Type{Width: 1}

func (m *maker) digits(t api.Type) string {
	if t == boolean {
		return m.of("true", "false")
	}
	v := m.Uint64()
	switch m.IntN(4) {
	case 0:
		v = math.MaxUint64 - v%3
	case 1, 2:
		v %= 10
	}
	return strconv.FormatUint(word.Norm(t, v), 10)
}

func (m *maker) expr(t api.Type, size int) string {
	l := m.places(t)
	if size > 0 && !m.one(4) {
		return m.joined(t, size-1)
	}
	if len(l) > 0 && !m.one(3) {
		return l[m.IntN(len(l))]
	}
	return m.digits(t)
}

func (m *maker) joined(t api.Type, size int) string {
	a, b := m.expr(t, size), m.expr(t, size)
	if m.one(4) {
		of := m.kind()
		return "(" + word.Name(t) + ")(" + m.expr(of, size) + ")"
	}
	if t != boolean {
		switch m.IntN(6) {
		case 0:
			return m.of("-", "~") + "(" + a + ")"
		case 1:
			return "(" + a + ") " + m.of("/", "%") + " " + m.of("3", "7", "(2 * "+b+" + 1)", "("+b+")")
		}
		return "(" + a + ") " + m.of("+", "-", "*", "&", "|", "^", "<<", ">>") + " (" + b + ")"
	}
	switch m.IntN(5) {
	case 0:
		return "!(" + a + ")"
	case 1:
		return "(" + a + ") " + m.of("==", "!=", "&", "|", "^") + " (" + b + ")"
	case 2:
		return "(" + a + ") " + m.of("&&", "||") + " (" + b + ")"
	}
	of := m.number()
	return "(" + m.expr(of, size) + ") " + m.of("==", "!=", "<", "<=", ">", ">=") + " (" + m.expr(of, size) + ")"
}

func (m *maker) given() []uint64 {
	var l []uint64
	for range m.IntN(12) {
		v := m.Uint64()
		if m.one(2) {
			v %= 6
		}
		l = append(l, v)
	}
	return l
}

func same(a, b api.Outcome) bool {
	return slices.Equal(a.Globals, b.Globals) && a.End == b.End && a.Line == b.Line && a.Col == b.Col && a.Steps == b.Steps && a.Draws == b.Draws
}

// P5.1, P5.3: runs of programs made by chance, within many numbers of steps, and with draws more behind.
func TestMadeRuns(t *testing.T) {
	const limit = 150
	var ends [api.EndZero + 1]int
	for seed := range uint64(4000) {
		m := &maker{Rand: rand.New(rand.NewPCG(seed, 56))}
		src, draws := made(seed), m.given()
		p, line, col, e := check.Read(src)
		if e != api.OK {
			t.Fatal(src, line, col, e)
		}
		want := modelled(p, draws, limit)
		last := want[len(want)-1]
		ends[last.End]++
		for steps, o := range want {
			if steps > 20 && steps%13 != 0 && steps < len(want)-1 {
				continue
			}
			if got := Run(p, draws, steps); !same(got, o) {
				t.Fatalf("%s%v, %d steps: %v, want %v", src, draws, steps, got, o)
			}
		}
		if last.End == api.EndSteps {
			continue
		}
		for _, steps := range []int{len(want), len(want) + 7, math.MaxInt} {
			if got, line, col, e := Read(src, draws, steps); !same(got, last) || line != 0 || col != 0 || e != api.OK {
				t.Fatalf("%s%v, %d steps: %v, want %v; %d, %d, %d", src, draws, steps, got, last, line, col, e)
			}
		}
		if last.End == api.EndDraws {
			continue
		}
		for _, l := range [][]uint64{draws[:last.Draws], append(slices.Clone(draws), 1, 2, 3)} {
			if got := Run(p, l, limit+1); !same(got, last) {
				t.Fatalf("%s%v: %v, want %v", src, l, got, last)
			}
		}
	}
	t.Log(ends)
	for end, n := range ends {
		if n < 50 {
			t.Error(Name(end), n)
		}
	}
}
