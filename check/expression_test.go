package check

import (
	"math/rand/v2"
	"strings"
	"testing"

	"skua/api"
	"skua/parse"
	"skua/word"
)

// told is the first thing that is wrong, by the node's line; the zero value: nothing.
type told struct {
	line int
	e    api.Errno
}

// form is the chapter's, as it says which expression has a type: of the variables of forms.
type form map[string]api.Var

var forms = form{
	"x": {Type: api.Type{Width: 8}}, "y": {Type: api.Type{Width: 16, Signed: true}}, "w": {Type: api.Type{Width: 64}}, "b": {Type: boolType},
	"a": {Type: api.Type{Width: 8}, Size: 2}, "c": {Type: boolType, Size: 3},
}

const formsHead = "u8 x; i16 y; u64 w; bool b; u8 a[2]; bool c[3];"

// suggests is the type that an expression suggests, if some, and what is told, if a name is met that isn't there.
func (f form) suggests(n api.Node) (api.Type, bool, told) {
	switch n.Kind {
	case "num":
		return api.Type{}, false, told{}
	case "name", "index":
		v, is := f[n.Text]
		if !is {
			return api.Type{}, false, told{n.Line, api.ErrCheckName}
		}
		return v.Type, true, told{}
	case "cast":
		t, _ := word.Of(n.Text)
		return t, true, told{}
	case "unary":
		if n.Text != "!" {
			return f.suggests(n.Kids[0])
		}
	case "binary":
		if among(n.Text, reckoning+" "+joining) {
			t, is, bad := f.suggests(n.Kids[0])
			if is || bad != (told{}) {
				return t, is, bad
			}
			return f.suggests(n.Kids[1])
		}
	}
	return boolType, true, told{}
}

// open is the type of what isn't told its type: what one suggests, or the other one, or u64.
func (f form) open(l ...api.Node) (api.Type, told) {
	for _, n := range l {
		t, is, bad := f.suggests(n)
		if is || bad != (told{}) {
			return t, bad
		}
	}
	return api.Type{Width: 64}, told{}
}

// first is the first of several things that is wrong.
func first(l ...func() told) told {
	for _, x := range l {
		if bad := x(); bad != (told{}) {
			return bad
		}
	}
	return told{}
}

// wrong is what is wrong with an expression that should have a type.
func (f form) wrong(n api.Node, t api.Type) told {
	typeIs := func(is bool) func() told {
		return func() told {
			if is {
				return told{}
			}
			return told{n.Line, api.ErrCheckType}
		}
	}
	has := func(i int, t api.Type) func() told { return func() told { return f.wrong(n.Kids[i], t) } }
	isBool := t == boolType
	switch n.Kind {
	case "num":
		return first(typeIs(!isBool && (t.Width == 64 || n.Num>>t.Width == 0)))
	case "true", "false":
		return first(typeIs(isBool))
	case "name", "index":
		return first(func() told { return f.placed(n, &t) })
	case "cast":
		to, _ := word.Of(n.Text)
		return first(typeIs(to == t), func() told {
			of, bad := f.open(n.Kids[0])
			return first(func() told { return bad }, has(0, of))
		})
	}
	switch {
	case n.Kind == "unary" && n.Text == "!":
		return first(typeIs(isBool), has(0, boolType))
	case n.Kind == "unary":
		return first(typeIs(!isBool), has(0, t))
	case among(n.Text, truths):
		return first(typeIs(isBool), has(0, boolType), has(1, boolType))
	case among(n.Text, equalities+" "+orders):
		return first(typeIs(isBool), func() told {
			of, bad := f.open(n.Kids...)
			return first(func() told { return bad }, typeIs(among(n.Text, equalities) || of != boolType), has(0, of), has(1, of))
		})
	}
	return first(typeIs(!isBool || among(n.Text, joining)), has(0, t), has(1, t))
}

// placed is what is wrong with a target; of a type, if one is given.
func (f form) placed(n api.Node, t *api.Type) told {
	v, is := f[n.Text]
	if !is {
		return told{n.Line, api.ErrCheckName}
	}
	if (n.Kind == "index") != (v.Size > 0) || t != nil && *t != v.Type {
		return told{n.Line, api.ErrCheckType}
	}
	if n.Kind == "name" {
		return told{}
	}
	of, bad := f.open(n.Kids[0])
	if bad == (told{}) && of == boolType {
		bad = told{n.Kids[0].Line, api.ErrCheckType}
	}
	return first(func() told { return bad }, func() told { return f.wrong(n.Kids[0], of) })
}

// numbered is a tree whose nodes have lines that tell which of them each is.
func numbered(n api.Node, next *int) api.Node {
	*next++
	n.Line, n.Col = *next, -*next
	kids := n.Kids
	n.Kids = nil
	for _, k := range kids {
		n.Kids = append(n.Kids, numbered(k, next))
	}
	return n
}

// likeForm holds Check's answer about an assignment against the form.
func likeForm(t *testing.T, program api.Node, target, n api.Node) {
	t.Helper()
	next := 0
	s := numbered(api.Node{Kind: "assign", Kids: []api.Node{target, n}}, &next)
	to, x := s.Kids[0], s.Kids[1]
	block := &program.Kids[len(program.Kids)-1].Kids[1]
	block.Kids = []api.Node{s}
	want := first(func() told { return forms.placed(to, nil) }, func() told { return forms.wrong(x, forms[to.Text].Type) })
	p, line, col, e := Check(program)
	if line != want.line || col != -want.line || e != want.e || (e == api.OK) != (len(p.Funcs) == 1) {
		text, _ := parse.Show(program)
		t.Fatalf("%s: %d, %d, %d, want %v", text, line, col, e, want)
	}
}

func formsProgram(t *testing.T) api.Node {
	t.Helper()
	n, _, _, e := parse.Read(formsHead + "void main() {}")
	if e != api.OK {
		t.Fatal(e)
	}
	return n
}

func atoms() []api.Node {
	l := []api.Node{{Kind: "num", Num: 1}, {Kind: "num", Num: 256}, {Kind: "true"}, {Kind: "false"}}
	for _, name := range strings.Fields("x y w b a z") {
		l = append(l, api.Node{Kind: "name", Text: name})
	}
	return l
}

// over is all expressions with these operands.
func over(left, right []api.Node, each func(n api.Node)) {
	for _, a := range left {
		for _, op := range strings.Fields("! - ~") {
			each(api.Node{Kind: "unary", Text: op, Kids: []api.Node{a}})
		}
		for _, of := range strings.Fields("bool u8 i16 u64") {
			each(api.Node{Kind: "cast", Text: of, Kids: []api.Node{a}})
		}
		for _, name := range strings.Fields("a c x z") {
			each(api.Node{Kind: "index", Text: name, Kids: []api.Node{a}})
		}
		for _, b := range right {
			for _, op := range strings.Fields(reckoning + " " + joining + " " + equalities + " " + orders + " " + truths) {
				each(api.Node{Kind: "binary", Text: op, Kids: []api.Node{a, b}})
			}
		}
	}
}

func named(name string) api.Node { return api.Node{Kind: "name", Text: name} }

// P4.1: every expression of one operator, given to variables of several types.
func TestEveryOperator(t *testing.T) {
	program := formsProgram(t)
	for _, to := range strings.Fields("x y w b a z") {
		for _, n := range atoms() {
			likeForm(t, program, named(to), n)
		}
		over(atoms(), atoms(), func(n api.Node) { likeForm(t, program, named(to), n) })
	}
}

// P4.1: every two operators, of a few of each kind.
func TestEveryTwoOperators(t *testing.T) {
	program := formsProgram(t)
	some := []api.Node{{Kind: "num", Num: 256}, {Kind: "true"}, named("x"), named("z")}
	var l []api.Node
	keep := func(n api.Node) {
		if n.Kind != "binary" || among(n.Text, "+ & == < &&") {
			l = append(l, n)
		}
	}
	over(some, some, keep)
	for _, to := range strings.Fields("x b") {
		each := func(n api.Node) {
			if n.Kind != "binary" || among(n.Text, "- | != >= ||") {
				likeForm(t, program, named(to), n)
			}
		}
		over(l, some, each)
		over(some, l, each)
	}
}

// P4.1: expressions by chance, in which many things may be wrong; in targets, too.
func TestAnyExpressions(t *testing.T) {
	program := formsProgram(t)
	r := rand.New(rand.NewPCG(4, 1))
	leaves := atoms()
	var expr func(size int) api.Node
	expr = func(size int) api.Node {
		if size == 0 || r.IntN(5) == 0 {
			// Mostly what may stand in many places, so that some expressions are right.
			return leaves[[]int{0, 0, 0, 0, 4, 4, 4, 7, 1, 2, 5, 6, 9, 8}[r.IntN(14)]]
		}
		var right, l []api.Node
		left := []api.Node{expr(size - 1)}
		if r.IntN(6) > 0 {
			right = []api.Node{expr(size - 1)}
		}
		over(left, right, func(n api.Node) { l = append(l, n) })
		if len(right) > 0 {
			l = l[len(l)-18:]
		}
		return l[r.IntN(len(l))]
	}
	fine := 0
	for range 60000 {
		target := named(strings.Fields("x x x b b b w y z a")[r.IntN(10)])
		if r.IntN(4) == 0 {
			target = api.Node{Kind: "index", Text: []string{"a", "c", "x", "z"}[r.IntN(4)], Kids: []api.Node{expr(r.IntN(3))}}
		}
		n := expr(r.IntN(5))
		likeForm(t, program, target, n)
		if forms.wrong(n, forms[target.Text].Type) == (told{}) {
			fine++
		}
	}
	if fine < 2000 {
		t.Error("too few that are right", fine)
	}
}
