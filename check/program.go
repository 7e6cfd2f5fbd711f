package check

import (
	"skua/api"
)

// Find is the function of a name; below 0: there is none.
func Find(p api.Prog, name string) int {
	for i, f := range p.Funcs {
		if f.Name == name {
			return i
		}
	}
	return -1
}

// Bits is how many bits all globals have.
func Bits(p api.Prog) int {
	bits := 0
	for _, v := range p.Globals {
		bits += v.Type.Width * cells(v)
	}
	return bits
}

// Same is whether two programs are the same.
func Same(a, b api.Prog) bool {
	return a.Main == b.Main && alike(a.Globals, b.Globals, sameVar) && alike(a.Funcs, b.Funcs, sameFunc)
}

// alike is whether two lists are the same, item by item.
func alike[T any](a, b []T, same func(x, y T) bool) bool {
	if len(a) != len(b) {
		return false
	}
	for i := range a {
		if !same(a[i], b[i]) {
			return false
		}
	}
	return true
}

func sameVar(a, b api.Var) bool { return a == b }

func sameFunc(a, b api.Func) bool {
	return a.Name == b.Name && a.Type == b.Type && a.Params == b.Params &&
		alike(a.Vars, b.Vars, sameVar) && alike(a.Body, b.Body, sameStmt)
}

func sameStmt(a, b api.Stmt) bool {
	return a.Op == b.Op && a.Line == b.Line && a.Col == b.Col && a.Func == b.Func &&
		alike(a.Target, b.Target, sameExpr) && alike(a.Exprs, b.Exprs, sameExpr) &&
		alike(a.Then, b.Then, sameStmt) && alike(a.Else, b.Else, sameStmt)
}

func sameExpr(a, b api.Expr) bool {
	return a.Op == b.Op && a.Type == b.Type && a.Num == b.Num && a.Var == b.Var && a.Global == b.Global &&
		a.Line == b.Line && a.Col == b.Col && alike(a.Kids, b.Kids, sameExpr)
}
