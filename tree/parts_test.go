package tree_test

import (
	"mortise/api"
)

// Parts of tree code, in short words.

func num(n int64) api.MExpr       { return api.MExpr{Op: api.EConst, N: n} }
func loc(n int64) api.MExpr       { return api.MExpr{Op: api.ELocal, N: n} }
func data(s string) api.MExpr     { return api.MExpr{Op: api.EData, Name: s} }
func code(s string) api.MExpr     { return api.MExpr{Op: api.ECode, Name: s} }
func alloc(n api.MExpr) api.MExpr { return api.MExpr{Op: api.EAlloc, Kids: list(n)} }
func in() api.MExpr               { return api.MExpr{Op: api.EIn} }

func list[T any](l ...T) []T { return l }

func bin(op int64, a, b api.MExpr) api.MExpr {
	return api.MExpr{Op: api.EBin, N: op, Kids: list(a, b)}
}
func un(op int64, a api.MExpr) api.MExpr  { return api.MExpr{Op: api.EUn, N: op, Kids: list(a)} }
func load(n int64, a api.MExpr) api.MExpr { return api.MExpr{Op: api.ELoad, N: n, Kids: list(a)} }
func cond(a, b, c api.MExpr) api.MExpr    { return api.MExpr{Op: api.ECond, Kids: list(a, b, c)} }
func check(n int64, a, b api.MExpr) api.MExpr {
	return api.MExpr{Op: api.ECheck, N: n, Kids: list(a, b)}
}
func call(s string, l ...api.MExpr) api.MExpr {
	return api.MExpr{Op: api.ECall, Name: s, Kids: l}
}
func at(l ...api.MExpr) api.MExpr { return api.MExpr{Op: api.ECallAt, Kids: l} }

func set(n int64, e api.MExpr) api.MStat { return api.MStat{Op: api.SSet, N: n, Exprs: list(e)} }
func do(e api.MExpr) api.MStat           { return api.MStat{Op: api.SDo, Exprs: list(e)} }
func out(e api.MExpr) api.MStat          { return api.MStat{Op: api.SOut, Exprs: list(e)} }
func ret(l ...api.MExpr) api.MStat       { return api.MStat{Op: api.SReturn, Exprs: l} }
func loop(l ...api.MStat) api.MStat      { return api.MStat{Op: api.SLoop, Body: l} }
func brk(n int64) api.MStat              { return api.MStat{Op: api.SBreak, N: n} }
func next(n int64) api.MStat             { return api.MStat{Op: api.SNext, N: n} }
func trap(n int64) api.MStat             { return api.MStat{Op: api.STrap, N: n} }
func store(n int64, a, v api.MExpr) api.MStat {
	return api.MStat{Op: api.SStore, N: n, Exprs: list(a, v)}
}
func when(e api.MExpr, body []api.MStat, other ...api.MStat) api.MStat {
	return api.MStat{Op: api.SIf, Exprs: list(e), Body: body, Else: other}
}

func fn(name string, params, locals int, l ...api.MStat) api.MFunc {
	return api.MFunc{Name: name, Params: params, Locals: locals, Body: l}
}
func weak(f api.MFunc) api.MFunc {
	f.Weak = true
	return f
}
func funcs(l ...api.MFunc) api.Module { return api.Module{Funcs: l} }
func datas(l ...api.MData) api.Module { return api.Module{Datas: l} }
func words(name string, l ...int64) api.MData {
	return api.MData{Name: name, Words: l}
}

// body is a module of one function with three locals, one of them a parameter.
func body(l ...api.MStat) api.Module { return funcs(fn("f", 1, 3, l...)) }

// mainOf is a module of a main alone, with three locals.
func mainOf(l ...api.MStat) api.Module { return funcs(fn("main", 0, 3, l...)) }

// many are n times that.
func many[T any](n int, of T) []T {
	l := make([]T, n)
	for i := range l {
		l[i] = of
	}
	return l
}
