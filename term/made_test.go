package term

import (
	"math"
	"math/big"
	"math/rand/v2"
	"slices"
	"strconv"
	"strings"
	"testing"

	"skua/api"
)

var (
	boolType = api.Type{Width: 1}
	u8       = api.Type{Width: 8}
	i8       = api.Type{Width: 8, Signed: true}
	u16      = api.Type{Width: 16}
	i16      = api.Type{Width: 16, Signed: true}
	u32      = api.Type{Width: 32}
	i32      = api.Type{Width: 32, Signed: true}
	u64      = api.Type{Width: 64}
	i64      = api.Type{Width: 64, Signed: true}
	allTypes = []api.Type{boolType, u8, i8, u16, i16, u32, i32, u64, i64}
	noTypes  = []api.Type{{}, {Width: 1, Signed: true}, {Width: 2}, {Width: 7}, {Width: 9, Signed: true}, {Width: 24}, {Width: 63}, {Width: 65}, {Width: 128}, {Width: -8}, {Width: -1}, {Width: math.MinInt}, {Width: math.MaxInt, Signed: true}, {Width: 1<<32 + 8}}
)

// The operators, by how many terms they are of, as the chapter lists them; and some texts that are none.
var (
	turnOps = []string{"u-", "u~"}
	doOps   = []string{"+", "-", "*", "/", "%", "&", "|", "^", "<<", ">>"}
	testOps = []string{"==", "!=", "<", "<=", ">", ">="}
	bothOps = []string{"&&", "||", "&", "|", "^", "==", "!="} // of two of bool
	noOps   = []string{"", "u", "~", "!", "u+", "uu!", "num", "var", "cast", "u8", "bool", "=", "**", "&&&", "<<<", "if", "ite ", " ite", "Ite", "+ ", "u- ", "\xff", "÷"}
)

// oneOps is the operators of one term of a type, pairOps of two.
func oneOps(t api.Type) []string {
	if t == boolType {
		return []string{"u!"}
	}
	return turnOps
}

func pairOps(t api.Type) []string {
	if t == boolType {
		return bothOps
	}
	return append(slices.Clone(doOps), testOps...)
}

func nameOf(t api.Type) string {
	if t == boolType {
		return "bool"
	}
	if t.Signed {
		return "i" + strconv.Itoa(t.Width)
	}
	return "u" + strconv.Itoa(t.Width)
}

// must is a term that is told without an error.
func must(t *testing.T) func(f int, e api.Errno) int {
	return func(f int, e api.Errno) int {
		t.Helper()
		if e != api.OK {
			t.Fatal(e)
		}
		return f
	}
}

// stood is what a value of a type stands for, in whole numbers without a bound; valueOf the other way.
func stood(t api.Type, v uint64) *big.Int {
	all := new(big.Int).Lsh(big.NewInt(1), uint(t.Width))
	x := new(big.Int).Mod(new(big.Int).SetUint64(v), all)
	if t.Signed && x.Bit(t.Width-1) == 1 {
		x.Sub(x, all)
	}
	return x
}

func valueOf(t api.Type, x *big.Int) uint64 {
	return new(big.Int).Mod(x, new(big.Int).Lsh(big.NewInt(1), uint(t.Width))).Uint64()
}

func flagOf(is bool) uint64 {
	if is {
		return 1
	}
	return 0
}

// wantCast is what chapter 1 asks of a cast.
func wantCast(from, to api.Type, v uint64) uint64 {
	x := stood(from, v)
	if to == boolType {
		return flagOf(x.Sign() != 0)
	}
	return valueOf(to, x)
}

// wantOp is what an operator makes of values, the first one being of a type, as the chapter's section Words says it.
func wantOp(t api.Type, op string, l ...uint64) uint64 {
	switch len(l) {
	case 1:
		return wantTurn(t, op, l[0])
	case 2:
		return wantPair(t, op, l[0], l[1])
	}
	if l[0] == 1 {
		return l[1]
	}
	return l[2]
}

func wantTurn(t api.Type, op string, a uint64) uint64 {
	x := stood(t, a)
	switch op {
	case "u-":
		return valueOf(t, x.Neg(x))
	case "u~":
		return valueOf(t, x.Not(x))
	}
	return 1 - a
}

func wantPair(t api.Type, op string, a, b uint64) uint64 {
	x, y, z := stood(t, a), stood(t, b), new(big.Int)
	switch op {
	case "&&":
		return a * b
	case "||":
		return a + b - a*b
	case "+":
		z.Add(x, y)
	case "-":
		z.Sub(x, y)
	case "*":
		z.Mul(x, y)
	case "/":
		if y.Sign() != 0 {
			z.Quo(x, y)
		}
	case "%":
		if y.Sign() != 0 {
			z.Rem(x, y)
		}
	case "&":
		z.And(x, y)
	case "|":
		z.Or(x, y)
	case "^":
		z.Xor(x, y)
	case "<<", ">>":
		z = wantShift(op, x, min(b, 100))
	default:
		c := x.Cmp(y)
		return flagOf(op == "==" && c == 0 || op == "!=" && c != 0 || op == "<" && c < 0 || op == "<=" && c <= 0 || op == ">" && c > 0 || op == ">=" && c >= 0)
	}
	return valueOf(t, z)
}

func wantShift(op string, x *big.Int, by uint64) *big.Int {
	power := new(big.Int).Lsh(big.NewInt(1), uint(by))
	if op == "<<" {
		return new(big.Int).Mul(x, power)
	}
	return new(big.Int).Div(x, power) // rounded down, as the power is above 0
}

// edges is values of a type around its ends and its middle.
func edges(t api.Type) []uint64 {
	if t == boolType {
		return []uint64{0, 1}
	}
	half := uint64(1) << (t.Width - 1)
	return []uint64{0, 1, 2, 3, 7, uint64(t.Width) - 1, uint64(t.Width), half - 1, half, half + 1, 2*half - 2, 2*half - 1}
}

// tree is a term as it is told by a text.
type tree struct {
	op   string
	t    api.Type
	num  uint64
	kids []tree
}

// is is what a tree is, where variables are as told.
func (x tree) is(vars map[int]uint64) uint64 {
	switch x.op {
	case "num":
		return x.num
	case "var":
		return vars[int(x.num)]
	case "cast":
		return wantCast(x.kids[0].t, x.t, x.kids[0].is(vars))
	}
	var l []uint64
	for _, kid := range x.kids {
		l = append(l, kid.is(vars))
	}
	return wantOp(x.kids[0].t, x.op, l...)
}

func (x tree) show() string {
	switch x.op {
	case "num":
		return strconv.FormatUint(x.num, 10) + ":" + nameOf(x.t)
	case "var":
		return "v" + strconv.FormatUint(x.num, 10) + ":" + nameOf(x.t)
	}
	s := "(" + x.op
	if x.op == "cast" {
		s = "(" + nameOf(x.t)
	}
	for _, kid := range x.kids {
		s += " " + kid.show()
	}
	return s + ")"
}

// vars is a tree's variables, with their types.
func (x tree) vars(found map[int]api.Type) {
	if x.op == "var" {
		found[int(x.num)] = x.t
	}
	for _, kid := range x.kids {
		kid.vars(found)
	}
}

// readTree is the tree of a text, and what is behind it.
func readTree(t *testing.T, s string) (tree, string) {
	t.Helper()
	if !strings.HasPrefix(s, "(") {
		end := strings.IndexAny(s+" ", " )")
		num, name, _ := strings.Cut(s[:end], ":")
		x := tree{op: "num", t: typeOf(t, name)}
		if strings.HasPrefix(num, "v") {
			x.op, num = "var", num[1:]
		}
		var err error
		if x.num, err = strconv.ParseUint(num, 10, 64); err != nil {
			t.Fatal(s, err)
		}
		return x, s[end:]
	}
	op, rest, _ := strings.Cut(s[1:], " ")
	x := tree{op: op}
	rest = " " + rest
	for strings.HasPrefix(rest, " ") {
		var kid tree
		kid, rest = readTree(t, rest[1:])
		x.kids = append(x.kids, kid)
	}
	x.t = treeType(t, &x)
	return x, strings.TrimPrefix(rest, ")")
}

func typeOf(t *testing.T, name string) api.Type {
	t.Helper()
	for _, x := range allTypes {
		if nameOf(x) == name {
			return x
		}
	}
	t.Fatal(name)
	return api.Type{}
}

// treeType is the type of a tree that isn't a leaf; of a cast it sets the operator.
func treeType(t *testing.T, x *tree) api.Type {
	t.Helper()
	first := x.kids[0].t
	switch {
	case len(x.kids) == 1 && slices.Contains(oneOps(first), x.op):
		return first
	case len(x.kids) == 1:
		name := x.op
		x.op = "cast"
		return typeOf(t, name)
	case len(x.kids) == 2 && first == x.kids[1].t && slices.Contains(pairOps(first), x.op):
		if slices.Contains(testOps, x.op) {
			return boolType
		}
		return first
	case len(x.kids) == 3 && x.op == "ite" && first == boolType && x.kids[1].t == x.kids[2].t:
		return x.kids[1].t
	}
	t.Fatalf("%+v", x)
	return api.Type{}
}

// treeOf is a term's tree, by its text.
func treeOf(t *testing.T, p *Pool, f int) tree {
	t.Helper()
	x, rest := readTree(t, p.Show(f))
	if rest != "" || x.show() != p.Show(f) {
		t.Fatal(p.Show(f), rest)
	}
	return x
}

// values is what variables are as Eval asks for it, in some order.
func values(r *rand.Rand, types map[int]api.Type, is map[int]uint64) []api.Value {
	var l []api.Value
	for v := range types {
		l = append(l, api.Value{Var: v, Type: types[v], Num: is[v]})
	}
	slices.SortFunc(l, func(a, b api.Value) int { return a.Var - b.Var })
	if r != nil {
		r.Shuffle(len(l), func(i, j int) { l[i], l[j] = l[j], l[i] })
	}
	return l
}

// noTerms is numbers that are no term's of a pool.
func noTerms(p *Pool) []int {
	return []int{-1, p.Len(), p.Len() + 1, math.MinInt, math.MaxInt, 1 << 32, -1 << 32, 1 << 62}
}
