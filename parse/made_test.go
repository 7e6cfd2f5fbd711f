package parse

import (
	"math/rand/v2"
	"strconv"
	"strings"

	"skua/api"
)

// typeWords, binaries and unaries are written out again, so that a fault in the package's own tables is seen. Rows of binaries bind tighter than those ahead of them.
var (
	typeWords = strings.Fields("i64 i32 i16 i8 u64 u32 u16 u8 bool")
	binaries  = []string{"||", "&&", "|", "^", "&", "!= ==", "> >= < <=", ">> <<", "- +", "% / *"}
	unaries   = strings.Fields("- ~ !")
)

func allBinaries() []string { return strings.Fields(strings.Join(binaries, " ")) }

// row is how tightly an operator binds.
func row(op string) int {
	for i, ops := range binaries {
		for _, x := range strings.Fields(ops) {
			if x == op {
				return i
			}
		}
	}
	panic(op)
}

// maker makes trees by chance, the same ones at each run.
type maker struct{ r *rand.Rand }

func newMaker(seed uint64) maker { return maker{rand.New(rand.NewPCG(seed, 3))} }

func (m maker) pick(l []string) string { return l[m.r.IntN(len(l))] }

func (m maker) name() string {
	return m.pick(strings.Fields("x y a b1 _ _0 Z f main iff u88 voids nondet_ True"))
}

func (m maker) typed(kind string) api.Node {
	return api.Node{Kind: kind, Text: m.name(), Kids: []api.Node{{Kind: "type", Text: m.pick(typeWords)}}}
}

func (m maker) number() api.Node {
	nums := []uint64{0, 1, 7, 255, 256, 1 << 32, 1<<63 - 1, 1 << 63, 1<<64 - 1}
	return api.Node{Kind: "num", Num: nums[m.r.IntN(len(nums))]}
}

func (m maker) program(size int) api.Node {
	n := api.Node{Kind: "program"}
	for range m.r.IntN(size + 1) {
		if m.r.IntN(2) == 0 {
			n.Kids = append(n.Kids, m.global())
		} else {
			n.Kids = append(n.Kids, m.function(size))
		}
	}
	return n
}

func (m maker) global() api.Node {
	n := m.typed("global")
	if m.r.IntN(2) == 0 {
		n.Kids = append(n.Kids, m.number())
	}
	return n
}

func (m maker) function(size int) api.Node {
	n := m.typed("func")
	if m.r.IntN(2) == 0 {
		n.Kids[0].Text = "void"
	}
	for range m.r.IntN(4) {
		n.Kids = append(n.Kids, m.typed("param"))
	}
	n.Kids = append(n.Kids, m.block(size))
	return n
}

func (m maker) block(size int) api.Node {
	n := api.Node{Kind: "block"}
	for range m.r.IntN(size + 1) {
		n.Kids = append(n.Kids, m.statement(size-1))
	}
	return n
}

func (m maker) statement(size int) api.Node {
	kind := m.pick(strings.Fields("local assign nondet call result if if while return assert assume"))
	n := api.Node{Kind: kind}
	add := func(l ...api.Node) { n.Kids = append(n.Kids, l...) }
	switch kind {
	case "local":
		return m.typed("local")
	case "call":
		return m.call(size)
	case "assign":
		add(m.target(size), m.expression(size))
	case "nondet":
		add(m.target(size))
	case "result":
		add(m.target(size), m.call(size))
	case "if":
		add(m.expression(size), m.block(size))
		if m.r.IntN(2) == 0 {
			add(m.block(size))
		}
	case "while":
		add(m.expression(size), m.block(size))
	case "return":
		if m.r.IntN(2) == 0 {
			add(m.expression(size))
		}
	default:
		add(m.expression(size))
	}
	return n
}

func (m maker) call(size int) api.Node {
	n := api.Node{Kind: "call", Text: m.name()}
	for range m.r.IntN(4) {
		n.Kids = append(n.Kids, m.expression(size))
	}
	return n
}

func (m maker) target(size int) api.Node {
	if m.r.IntN(2) == 0 {
		return api.Node{Kind: "name", Text: m.name()}
	}
	return api.Node{Kind: "index", Text: m.name(), Kids: []api.Node{m.expression(size - 1)}}
}

func (m maker) expression(size int) api.Node {
	if size <= 0 {
		switch m.r.IntN(4) {
		case 0:
			return m.number()
		case 1:
			return api.Node{Kind: m.pick([]string{"true", "false"})}
		}
		return api.Node{Kind: "name", Text: m.name()}
	}
	switch m.r.IntN(8) {
	case 0:
		return api.Node{Kind: "unary", Text: m.pick(unaries), Kids: []api.Node{m.expression(size - 1)}}
	case 1:
		return api.Node{Kind: "cast", Text: m.pick(typeWords), Kids: []api.Node{m.expression(size - 1)}}
	case 2:
		return m.target(size)
	case 3:
		return m.expression(0)
	}
	return api.Node{Kind: "binary", Text: m.pick(allBinaries()), Kids: []api.Node{m.expression(size - 1), m.expression(size - 1)}}
}

// printer writes a tree as the grammar says it, and tells the nodes where they stand. Without a maker it writes as P3.2 asks; with one it writes parentheses, numbers and what stands between tokens by chance.
type printer struct {
	text      strings.Builder
	line, col int
	by        *maker
}

// printed is a tree's program, and the tree with places.
func printed(n api.Node, by *maker) (string, api.Node) {
	p := &printer{line: 1, col: 1, by: by}
	if by != nil {
		p.gap()
	}
	n = p.program(n)
	return p.text.String(), n
}

func (p *printer) write(s string) {
	for _, b := range []byte(s) {
		p.text.WriteByte(b)
		p.col++
		if b == '\n' {
			p.line, p.col = p.line+1, 1
		}
	}
}

func (p *printer) gap() {
	p.write(p.by.pick([]string{" ", "  ", "\t", "\n", "\r\n", " // x = $\n", "\n\n \t"}))
}

// word writes a token, and tells the node where it stands.
func (p *printer) word(n *api.Node, s string) {
	if p.by == nil && p.text.Len() > 0 {
		p.write(" ")
	}
	if n != nil {
		n.Line, n.Col = p.line, p.col
	}
	p.write(s)
	if p.by != nil {
		p.gap()
	}
}

func (p *printer) words(l ...string) {
	for _, s := range l {
		p.word(nil, s)
	}
}

func copied(n api.Node) api.Node {
	n.Kids = append([]api.Node(nil), n.Kids...)
	return n
}

func (p *printer) program(n api.Node) api.Node {
	n = copied(n)
	n.Line, n.Col = p.line, p.col
	for i, k := range n.Kids {
		k = copied(k)
		p.typed(&k)
		if k.Kind == "func" {
			last := len(k.Kids) - 1
			p.words("(")
			for j := 1; j < last; j++ {
				if j > 1 {
					p.words(",")
				}
				k.Kids[j] = copied(k.Kids[j])
				p.typed(&k.Kids[j])
			}
			p.words(")")
			k.Kids[last] = p.block(k.Kids[last])
		} else {
			if len(k.Kids) > 1 {
				p.words("[")
				k.Kids[1] = p.expression(k.Kids[1])
				p.words("]")
			}
			p.words(";")
		}
		n.Kids[i] = k
	}
	return n
}

func (p *printer) typed(n *api.Node) {
	p.word(&n.Kids[0], n.Kids[0].Text)
	n.Line, n.Col = n.Kids[0].Line, n.Kids[0].Col
	p.words(n.Text)
}

func (p *printer) block(n api.Node) api.Node {
	n = copied(n)
	p.word(&n, "{")
	for i, k := range n.Kids {
		n.Kids[i] = p.statement(k)
	}
	p.words("}")
	return n
}

func (p *printer) statement(n api.Node) api.Node {
	n = copied(n)
	switch n.Kind {
	case "local":
		p.typed(&n)
	case "call":
		n = p.call(n)
	case "assign", "nondet", "result":
		n.Kids[0] = p.expression(n.Kids[0])
		n.Line, n.Col = n.Kids[0].Line, n.Kids[0].Col
		p.words("=")
		switch n.Kind {
		case "assign":
			n.Kids[1] = p.whole(n.Kids[1])
		case "nondet":
			p.words("nondet", "(", ")")
		case "result":
			n.Kids[1] = p.call(n.Kids[1])
		}
	case "return":
		p.word(&n, "return")
		for i, k := range n.Kids {
			n.Kids[i] = p.whole(k)
		}
	default:
		p.word(&n, n.Kind)
		p.words("(")
		n.Kids[0] = p.whole(n.Kids[0])
		p.words(")")
	}
	if n.Kind != "if" && n.Kind != "while" {
		p.words(";")
		return n
	}
	n.Kids[1] = p.block(n.Kids[1])
	if len(n.Kids) > 2 {
		p.words("else")
		n.Kids[2] = p.block(n.Kids[2])
	}
	return n
}

func (p *printer) call(n api.Node) api.Node {
	n = copied(n)
	p.word(&n, n.Text)
	p.words("(")
	for i, k := range n.Kids {
		if i > 0 {
			p.words(",")
		}
		n.Kids[i] = p.whole(k)
	}
	p.words(")")
	return n
}

// whole writes an expression that stands by itself.
func (p *printer) whole(n api.Node) api.Node { return p.grouped(n, false) }

// grouped writes an expression in parentheses, if it must have them; by chance also if not.
func (p *printer) grouped(n api.Node, must bool) api.Node {
	more := 0
	if must {
		more = 1
	}
	if p.by != nil && p.by.r.IntN(6) == 0 {
		more++
	}
	for range more {
		p.words("(")
	}
	n = p.expression(n)
	for range more {
		p.words(")")
	}
	return n
}

// kid writes an operand: by the grammar it needs parentheses, if it binds looser than a row; as P3.2 asks, if it has kids and is no element.
func (p *printer) kid(n api.Node, than int) api.Node {
	must := n.Kind == "binary" && row(n.Text) < than
	if p.by == nil {
		must = n.Kind == "binary" || n.Kind == "unary" || n.Kind == "cast"
	}
	return p.grouped(n, must)
}

// digits writes a number in one of the ways in which it may be written.
func (p *printer) digits(num uint64) string {
	if p.by != nil {
		switch p.by.r.IntN(3) {
		case 0:
			return "0x" + strconv.FormatUint(num, 16)
		case 1:
			return "00" + strconv.FormatUint(num, 10)
		}
	}
	return strconv.FormatUint(num, 10)
}

func (p *printer) expression(n api.Node) api.Node {
	n = copied(n)
	switch n.Kind {
	case "binary":
		n.Kids[0] = p.kid(n.Kids[0], row(n.Text))
		p.word(&n, n.Text)
		n.Kids[1] = p.kid(n.Kids[1], row(n.Text)+1)
	case "unary":
		p.word(&n, n.Text)
		n.Kids[0] = p.kid(n.Kids[0], len(binaries))
	case "cast":
		p.word(&n, "(")
		p.words(n.Text, ")")
		n.Kids[0] = p.kid(n.Kids[0], len(binaries))
	case "num":
		p.word(&n, p.digits(n.Num))
	case "true", "false":
		p.word(&n, n.Kind)
	case "name":
		p.word(&n, n.Text)
	case "index":
		p.word(&n, n.Text)
		p.words("[")
		n.Kids[0] = p.whole(n.Kids[0])
		p.words("]")
	default:
		panic(n.Kind)
	}
	return n
}
