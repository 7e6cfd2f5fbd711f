package parse

import (
	"regexp"
	"slices"
	"strings"
	"testing"

	"skua/api"
)

// form is what a kind's text and its kids may be; a kid is told by its kind and a blank, a type of void by void and a blank.
type form struct{ text, kids *regexp.Regexp }

// forms is the chapter's grammar, as what stands behind each rule says it.
var forms = func() map[string]form {
	const expression, target = `(binary |unary |cast |num |true |false |name |index )`, `(name |index )`
	const none, name = ``, `[a-zA-Z_][a-zA-Z0-9_]*`
	types := strings.Join(typeWords, "|")
	out := map[string]form{}
	for kind, x := range map[string][2]string{
		"program": {none, `(global |func )*`},
		"type":    {types + "|void", none},
		"global":  {name, `type (num )?`},
		"func":    {name, `(type |void )(param )*block `},
		"param":   {name, `type `},
		"block":   {none, `(local |assign |nondet |call |result |if |while |return |assert |assume )*`},
		"local":   {name, `type `},
		"assign":  {none, target + expression},
		"nondet":  {none, target},
		"call":    {name, expression + "*"},
		"result":  {none, target + "call "},
		"if":      {none, expression + "block (block )?"},
		"while":   {none, expression + "block "},
		"return":  {none, expression + "?"},
		"assert":  {none, expression},
		"assume":  {none, expression},
		"name":    {name, none},
		"index":   {name, expression},
		"binary":  {strings.Join(quoted(allBinaries()), "|"), expression + "{2}"},
		"unary":   {strings.Join(quoted(unaries), "|"), expression},
		"cast":    {types, expression},
		"num":     {none, none},
		"true":    {none, none},
		"false":   {none, none},
	} {
		out[kind] = form{regexp.MustCompile(`\A(` + x[0] + `)\z`), regexp.MustCompile(`\A(` + x[1] + `)\z`)}
	}
	return out
}()

func quoted(l []string) []string {
	out := make([]string, len(l))
	for i, s := range l {
		out[i] = regexp.QuoteMeta(s)
	}
	return out
}

const keywords = " bool u8 u16 u32 u64 i8 i16 i32 i64 void if else while return assert assume nondet true false "

// mayBe is whether a node, with what stands below it, may be a part of a program's tree.
func mayBe(n api.Node) bool {
	f, is := forms[n.Kind]
	if !is || !f.text.MatchString(n.Text) || n.Num != 0 && n.Kind != "num" {
		return false
	}
	if n.Kind != "type" && n.Kind != "cast" && n.Text != "" && strings.Contains(keywords, " "+n.Text+" ") {
		return false
	}
	kids := ""
	for _, k := range n.Kids {
		if !mayBe(k) {
			return false
		}
		if k.Kind == "type" && k.Text == "void" {
			kids += "void "
		} else {
			kids += k.Kind + " "
		}
	}
	return f.kids.MatchString(kids)
}

// likeForms holds Show against the forms, the printer, and Read (P3.2, P3.4).
func likeForms(t *testing.T, n api.Node) {
	t.Helper()
	s, e := Show(n)
	if n.Kind != "program" || !mayBe(n) {
		if s != "" || e != api.ErrParseNode {
			t.Fatalf("%s: %q, %d, want ErrParseNode", told(n, false), s, e)
		}
		return
	}
	if want, _ := printed(n, nil); s != want || e != api.OK {
		t.Fatalf("%s: %q, %d, want %q", told(n, false), s, e, want)
	}
	if back, line, col, e := Read(s); e != api.OK || !Same(n, back) || told(n, false) != told(back, false) {
		t.Fatalf("%q: %d, %d, %d: %s, want %s", s, line, col, e, told(back, false), told(n, false))
	}
}

// changed tells a node in all ways in which one thing of it may be another.
func changed(n api.Node, tell func(n api.Node)) {
	with := func(change func(n *api.Node)) {
		m := copied(n)
		change(&m)
		tell(m)
	}
	for kind := range forms {
		with(func(n *api.Node) { n.Kind = kind })
	}
	for _, kind := range []string{"", "x", "else", "void", "Program", "num ", "statement", "u8"} {
		with(func(n *api.Node) { n.Kind = kind })
	}
	for _, text := range slices.Concat(strings.Fields(everyToken), []string{"", "x1", "_", "Z9", "9x", "x y", " x", "x ", "é", "x\n", "\x00", "x$", "++", "&&&", "!!", "=<", "+ ", "-1", "main", "voids", "u8 ", "u9", "If"}) {
		with(func(n *api.Node) { n.Text = text })
	}
	for _, num := range []uint64{0, 1, 1<<64 - 1} {
		with(func(n *api.Node) { n.Num = num })
	}
	with(func(n *api.Node) { n.Line, n.Col = n.Line-9, n.Col+3 })
	with(func(n *api.Node) { n.Kids = nil })
	with(func(n *api.Node) { slices.Reverse(n.Kids) })
	for _, kid := range []api.Node{{}, {Kind: "name", Text: "x"}, {Kind: "num"}, {Kind: "block"}, {Kind: "call", Text: "f"}, {Kind: "type", Text: "u8"}, {Kind: "type", Text: "void"}, {Kind: "return"}} {
		with(func(n *api.Node) { n.Kids = append(n.Kids, kid) })
		with(func(n *api.Node) { n.Kids = slices.Insert(n.Kids, 0, kid) })
	}
	for i := range n.Kids {
		with(func(n *api.Node) { n.Kids = slices.Delete(n.Kids, i, i+1) })
		with(func(n *api.Node) { n.Kids = slices.Insert(n.Kids, i, n.Kids[i]) })
	}
}

// everyChange tells a tree in which one thing of one node is another.
func everyChange(n api.Node, tell func(n api.Node)) {
	changed(n, tell)
	for i, k := range n.Kids {
		everyChange(k, func(k api.Node) {
			m := copied(n)
			m.Kids[i] = k
			tell(m)
		})
	}
}

const everyRule = `
	u8 x; bool a[3];
	void g() { }
	i32 f(u8 p, i64 q) {
		u16 l; x = 1; x = nondet(); a[x] = g(); g(x, -1);
		if (!x) { return; } else { return 0; } if (x) { } while (true) { assert(x < 2 * y); }
		assume((u8) ~ false); x = a[1];
	}`

// P3.2, P3.4, P1: a tree of all rules, and every tree that is one change away from it, is shown as asked and read again, or is none.
func TestShowEveryChange(t *testing.T) {
	n, _, _, e := Read(everyRule)
	if e != api.OK {
		t.Fatal(e)
	}
	likeForms(t, n)
	shown, none := 0, 0
	everyChange(n, func(n api.Node) {
		likeForms(t, n)
		if _, e := Show(n); e == api.OK {
			shown++
		} else {
			none++
		}
	})
	if shown < 500 || none < 5000 {
		t.Error(shown, none)
	}
}

// P3.2, P3.4: trees made by chance.
func TestShowIsReadAgain(t *testing.T) {
	for seed := range uint64(4000) {
		m := newMaker(seed + 1<<32)
		n := m.program(int(seed % 6))
		likeForms(t, n)
		_, n = printed(n, &m) // places don't matter
		likeForms(t, n)
	}
}

// P3.2: what is shown, written out.
func TestShowTexts(t *testing.T) {
	for _, x := range []struct{ src, want string }{
		{"", ""}, {"//\n", ""},
		{"u8 x; void f() { x = x + 1 * 2; }", "u8 x ; void f ( ) { x = x + ( 1 * 2 ) ; }"},
		{"i16 a[0x10];", "i16 a [ 16 ] ;"}, {"u64 a[0xFFFFFFFFFFFFFFFF];", "u64 a [ 18446744073709551615 ] ;"},
		{"u8 f(u8 p,bool q){return p;}", "u8 f ( u8 p , bool q ) { return p ; }"},
		{"void f(){x=(1);x=((y));x=(a[(1)]);x=(true);}", "void f ( ) { x = 1 ; x = y ; x = a [ 1 ] ; x = true ; }"},
		{"void f(){x=1-2-3;x=1-(2-3);}", "void f ( ) { x = ( 1 - 2 ) - 3 ; x = 1 - ( 2 - 3 ) ; }"},
		// unary nodes and casts have parentheses as binary ones do, but where they stand by themselves
		{"void f(){x=-1;x=- -1;x=-(1+2);x=-1+~2;x=(u8)1;x=(u8)(i8)-1;x=(u8)1+2;x=(u8)(1+2);}", "void f ( ) { x = - 1 ; x = - ( - 1 ) ; x = - ( 1 + 2 ) ; x = ( - 1 ) + ( ~ 2 ) ; x = ( u8 ) 1 ; x = ( u8 ) ( ( i8 ) ( - 1 ) ) ; x = ( ( u8 ) 1 ) + 2 ; x = ( u8 ) ( 1 + 2 ) ; }"},
		{"void f(){return-1;assert((1==2));assume(!x);if((x)){}while(x&&y){}if(x){}else{return;}}", "void f ( ) { return - 1 ; assert ( 1 == 2 ) ; assume ( ! x ) ; if ( x ) { } while ( x && y ) { } if ( x ) { } else { return ; } }"},
		{"void f(){u8 l;a[l+1]=a[-l]+1;a[(u8)l]=nondet();l=g(1+2,-l,(u8)l,(x));g();}", "void f ( ) { u8 l ; a [ l + 1 ] = a [ - l ] + 1 ; a [ ( u8 ) l ] = nondet ( ) ; l = g ( 1 + 2 , - l , ( u8 ) l , x ) ; g ( ) ; }"},
		{"void f(){x=a[1]*-a[2];}", "void f ( ) { x = a [ 1 ] * ( - a [ 2 ] ) ; }"},
	} {
		n, _, _, e := Read(x.src)
		if e != api.OK {
			t.Fatal(x.src, e)
		}
		if s, e := Show(n); s != x.want || e != api.OK {
			t.Errorf("%q: %q, %d, want %q", x.src, s, e, x.want)
		}
	}
}

// P3.2: trees that are no program's.
func TestShowRefuses(t *testing.T) {
	u8, void := api.Node{Kind: "type", Text: "u8"}, api.Node{Kind: "type", Text: "void"}
	block, x := api.Node{Kind: "block"}, api.Node{Kind: "name", Text: "x"}
	program := func(l ...api.Node) api.Node { return api.Node{Kind: "program", Kids: l} }
	inside := func(l ...api.Node) api.Node {
		return program(api.Node{Kind: "func", Text: "f", Kids: []api.Node{void, {Kind: "block", Kids: l}}})
	}
	assigned := func(n api.Node) api.Node { return inside(api.Node{Kind: "assign", Kids: []api.Node{x, n}}) }
	for i, n := range []api.Node{
		{}, block, x, u8, {Kind: "num"}, {Kind: "program", Text: "x"}, {Kind: "program", Num: 1}, program(program()), program(x), program(block),
		program(api.Node{Kind: "global", Text: "x"}), program(api.Node{Kind: "global", Text: "x", Kids: []api.Node{void}}), program(api.Node{Kind: "global", Text: "if", Kids: []api.Node{u8}}), program(api.Node{Kind: "global", Text: "x", Kids: []api.Node{u8, x}}), program(api.Node{Kind: "global", Text: "x", Num: 2, Kids: []api.Node{u8}}), program(api.Node{Kind: "local", Text: "x", Kids: []api.Node{u8}}),
		program(api.Node{Kind: "func", Text: "f", Kids: []api.Node{u8}}), program(api.Node{Kind: "func", Text: "f", Kids: []api.Node{block}}), program(api.Node{Kind: "func", Text: "f", Kids: []api.Node{u8, block, block}}), program(api.Node{Kind: "func", Text: "f", Kids: []api.Node{u8, {Kind: "param", Text: "p", Kids: []api.Node{void}}, block}}), program(api.Node{Kind: "func", Text: "1f", Kids: []api.Node{u8, block}}), program(api.Node{Kind: "func", Kids: []api.Node{u8, block}}),
		inside(block), inside(x), inside(api.Node{Kind: "local", Text: "x", Kids: []api.Node{void}}), inside(api.Node{Kind: "return", Kids: []api.Node{x, x}}), inside(api.Node{Kind: "return", Kids: []api.Node{{Kind: "call", Text: "g"}}}), inside(api.Node{Kind: "if", Kids: []api.Node{x}}), inside(api.Node{Kind: "if", Kids: []api.Node{x, block, block, block}}), inside(api.Node{Kind: "while", Kids: []api.Node{x, block, block}}), inside(api.Node{Kind: "nondet", Kids: []api.Node{{Kind: "num"}}}), inside(api.Node{Kind: "result", Kids: []api.Node{x, x}}),
		assigned(api.Node{Kind: "binary", Text: "=", Kids: []api.Node{x, x}}), assigned(api.Node{Kind: "binary", Text: "~", Kids: []api.Node{x, x}}), assigned(api.Node{Kind: "binary", Text: "+", Kids: []api.Node{x}}), assigned(api.Node{Kind: "unary", Text: "+", Kids: []api.Node{x}}), assigned(api.Node{Kind: "unary", Text: "-"}), assigned(api.Node{Kind: "cast", Text: "void", Kids: []api.Node{x}}), assigned(api.Node{Kind: "cast", Kids: []api.Node{x}}), assigned(api.Node{Kind: "num", Text: "1", Num: 1}), assigned(api.Node{Kind: "true", Text: "true"}), assigned(api.Node{Kind: "true", Num: 1}), assigned(api.Node{Kind: "name", Text: "true"}), assigned(api.Node{Kind: "name", Text: "x y"}), assigned(api.Node{Kind: "name"}), assigned(api.Node{Kind: "name", Text: "x", Kids: []api.Node{x}}), assigned(api.Node{Kind: "index", Text: "a"}), assigned(api.Node{Kind: "call", Text: "g"}), assigned(api.Node{Kind: "assign", Kids: []api.Node{x, x}}),
	} {
		if s, e := Show(n); s != "" || e != api.ErrParseNode {
			t.Errorf("%d: %s: %q, %d", i, told(n, false), s, e)
		}
	}
	if s, e := Show(assigned(x)); s != "void f ( ) { x = x ; }" || e != api.OK {
		t.Error(s, e)
	}
}

// chain is a program that assigns a tree of so many nodes in one another.
func chain(many int, wrap func(n api.Node) api.Node) api.Node {
	n := api.Node{Kind: "name", Text: "x"}
	for range many {
		n = wrap(n)
	}
	return api.Node{Kind: "program", Kids: []api.Node{{Kind: "func", Text: "f", Kids: []api.Node{{Kind: "type", Text: "void"}, {Kind: "block", Kids: []api.Node{{Kind: "assign", Kids: []api.Node{{Kind: "name", Text: "x"}, n}}}}}}}}
}

// wraps puts a node below another one in all ways in which expressions do.
func wraps() map[string]func(n api.Node) api.Node {
	x := api.Node{Kind: "num", Num: 7}
	return map[string]func(n api.Node) api.Node{
		"left":  func(n api.Node) api.Node { return api.Node{Kind: "binary", Text: "+", Kids: []api.Node{n, x}} },
		"right": func(n api.Node) api.Node { return api.Node{Kind: "binary", Text: "*", Kids: []api.Node{x, n}} },
		"unary": func(n api.Node) api.Node { return api.Node{Kind: "unary", Text: "-", Kids: []api.Node{n}} },
		"cast":  func(n api.Node) api.Node { return api.Node{Kind: "cast", Text: "i8", Kids: []api.Node{n}} },
		"index": func(n api.Node) api.Node { return api.Node{Kind: "index", Text: "a", Kids: []api.Node{n}} },
	}
}

// P3.2, P3.4: a tree is shown however deep it is; read again it is, if what is shown doesn't stand too deep.
func TestShowDeep(t *testing.T) {
	// how many nodes go into one another till what is shown stands too deep: a binary node's parentheses make it one deeper, a unary one's and a cast's operator too
	most := map[string]int{"left": 60, "right": 60, "unary": 30, "cast": 30, "index": 59}
	for name, wrap := range wraps() {
		for many := range 100 {
			n := chain(many, wrap)
			s, e := Show(n)
			if want, _ := printed(n, nil); s != want || e != api.OK {
				t.Fatalf("%s, %d: %q, %d", name, many, s, e)
			}
			back, _, _, e := Read(s)
			if many <= most[name] && (e != api.OK || !Same(n, back)) || many > most[name] && (!zero(back) || e != api.ErrParseDeep) {
				t.Fatalf("%s, %d: %d", name, many, e)
			}
		}
	}
}

// P3.2, P3.3, P1: as many nodes in one another as the promises hold for.
func TestVeryDeep(t *testing.T) {
	const many = 1<<16 - 10
	for name, wrap := range wraps() {
		a, b := chain(many, wrap), chain(many, wrap)
		if d := Deep(a); d != many+5 {
			t.Errorf("%s: %d deep", name, d)
		}
		if !Same(a, b) || Same(a, chain(many-1, wrap)) {
			t.Errorf("%s: Same", name)
		}
		if s, e := Show(a); len(s) < many || e != api.OK {
			t.Errorf("%s: %d bytes, %d", name, len(s), e)
		}
	}
}

// P3.2, P3.4: a program of more than MaxSource bytes is shown, but not read; a long name is one.
func TestShowLong(t *testing.T) {
	n := api.Node{Kind: "program"}
	for range api.MaxSource/8 - 1 {
		n.Kids = append(n.Kids, api.Node{Kind: "global", Text: "xy", Kids: []api.Node{{Kind: "type", Text: "u8"}}})
	}
	for _, more := range []int{0, 1, 2, 9, 10} {
		n.Kids[0].Text = "xy" + strings.Repeat("z", more)
		s, e := Show(n)
		if len(s) != api.MaxSource-9+more || e != api.OK {
			t.Fatal(len(s), e)
		}
		back, _, _, e := Read(s)
		if len(s) <= api.MaxSource && (e != api.OK || !Same(n, back)) || len(s) > api.MaxSource && e != api.ErrLexLong {
			t.Error(len(s), e)
		}
	}
	n.Kids = n.Kids[:1]
	n.Kids[0].Text = strings.Repeat("x", 2*api.MaxSource)
	if s, e := Show(n); s != "u8 "+n.Kids[0].Text+" ;" || e != api.OK {
		t.Error(len(s), e)
	}
}

// P3.3: Same, of a tree and all that is one change away from it.
func TestSame(t *testing.T) {
	n, _, _, _ := Read(everyRule)
	text := told(n, false)
	same, other := 0, 0
	everyChange(n, func(m api.Node) {
		want := told(m, false) == text
		if Same(n, m) != want || Same(m, n) != want || !Same(m, m) {
			t.Fatalf("%s, %s: not %v", text, told(m, false), want)
		}
		if want {
			same++
		} else {
			other++
		}
	})
	if same < 100 || other < 5000 {
		t.Error(same, other)
	}
	for i, x := range []struct {
		a, b api.Node
		want bool
	}{
		{api.Node{}, api.Node{}, true}, {api.Node{}, api.Node{Kids: []api.Node{}}, true}, {api.Node{Line: 1, Col: 2}, api.Node{Line: 3, Col: 4}, true},
		{api.Node{Kids: []api.Node{{Line: 1}}}, api.Node{Kids: []api.Node{{Col: 2}}}, true}, {api.Node{}, api.Node{Kids: []api.Node{{}}}, false},
		{api.Node{Kids: []api.Node{{}}}, api.Node{Kids: []api.Node{{}, {}}}, false}, {api.Node{Kids: []api.Node{{Num: 1}, {}}}, api.Node{Kids: []api.Node{{}, {Num: 1}}}, false},
		{api.Node{Kind: "x"}, api.Node{Text: "x"}, false}, {api.Node{Kind: "a", Text: "b"}, api.Node{Kind: "ab"}, false}, {api.Node{Num: 1}, api.Node{Num: 2}, false}, {api.Node{Num: 1<<64 - 1}, api.Node{Num: 1<<64 - 1}, true},
		{api.Node{Kids: []api.Node{{Kids: []api.Node{{Text: "x"}}}}}, api.Node{Kids: []api.Node{{Kids: []api.Node{{Text: "y"}}}}}, false},
	} {
		if Same(x.a, x.b) != x.want || Same(x.b, x.a) != x.want {
			t.Errorf("%d: not %v", i, x.want)
		}
	}
}

// P3.3: Deep.
func TestDeep(t *testing.T) {
	leaf := api.Node{Kind: "?"}
	over := func(l ...api.Node) api.Node { return api.Node{Kids: l} }
	for i, x := range []struct {
		n    api.Node
		want int
	}{
		{api.Node{}, 1}, {leaf, 1}, {api.Node{Kids: []api.Node{}}, 1}, {over(leaf), 2}, {over(leaf, leaf, leaf), 2},
		{over(over(leaf), leaf), 3}, {over(leaf, over(leaf)), 3}, {over(leaf, over(over(leaf), leaf), over(leaf)), 4}, {over(over(over(over(leaf)))), 5},
	} {
		if d := Deep(x.n); d != x.want {
			t.Errorf("%d: %d, want %d", i, d, x.want)
		}
	}
	for src, want := range map[string]int{"": 1, "u8 x;": 3, "void f() { }": 3, "void f() { x = x + 1 * 2; }": 7, "void f() { return; }": 4} {
		if n, _, _, _ := Read(src); Deep(n) != want {
			t.Errorf("%q: %d, want %d", src, Deep(n), want)
		}
	}
}

// Rules: what is handed in stays as it is, the spare room of its lists too.
func TestTreesStayAsTheyAre(t *testing.T) {
	n, _, _, _ := Read(everyRule)
	var roomy func(n api.Node) api.Node
	roomy = func(n api.Node) api.Node {
		kids := make([]api.Node, 0, len(n.Kids)+2)
		for _, k := range n.Kids {
			kids = append(kids, roomy(k))
		}
		all := append(kids, api.Node{Kind: "spare"}, api.Node{Kind: "room"})
		n.Kids = all[:len(kids)]
		return n
	}
	n = roomy(n)
	want := told(n, true)
	var room func(n api.Node) bool
	room = func(n api.Node) bool {
		all := n.Kids[:cap(n.Kids)]
		is := all[len(n.Kids)].Kind == "spare" && all[len(n.Kids)+1].Kind == "room"
		for _, k := range n.Kids {
			is = is && room(k)
		}
		return is
	}
	a, _ := Show(n)
	b, _ := Show(n)
	if a != b || !Same(n, n) || Deep(n) < 2 {
		t.Error("answers differ")
	}
	if told(n, true) != want || !room(n) {
		t.Error("what was handed in is changed")
	}
}
