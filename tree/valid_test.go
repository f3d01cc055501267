package tree_test

import (
	"math"
	"strings"
	"testing"

	"mortise/api"
	"mortise/tree"
)

// expectValid holds Valid's answer against what is asked for.
func expectValid(t *testing.T, what string, m api.Module, want api.Errno) {
	t.Helper()
	if e := tree.Valid(m); e != want {
		t.Errorf("%s: %d, want %d", what, e, want)
	}
}

// TestExprShapes: each Op has so many kids and no more or less (15.1).
func TestExprShapes(t *testing.T) {
	for _, c := range []struct {
		op, least, most int
		n               int64
		name            string
	}{
		{api.EConst, 0, 0, 5, ""}, {api.ELocal, 0, 0, 2, ""}, {api.EBin, 2, 2, api.Div, ""}, {api.EUn, 1, 1, api.Bang, ""}, {api.ELoad, 1, 1, 4, ""},
		{api.ECall, 0, 16, 0, "g"}, {api.ECallAt, 1, 17, 0, ""}, {api.EData, 0, 0, 0, "g"}, {api.ECode, 0, 0, 0, "g"}, {api.EAlloc, 1, 1, 0, ""},
		{api.EIn, 0, 0, 0, ""}, {api.ECond, 3, 3, 0, ""}, {api.ECheck, 2, 2, 7, ""},
	} {
		for n := range 19 {
			e := api.MExpr{Op: c.op, N: c.n, Name: c.name, Kids: many(n, num(1))}
			want := api.ErrForm
			if n >= c.least && n <= c.most {
				want = api.OK
			}
			expectValid(t, "15.1: kids", body(do(e)), want)
			if want == api.ErrForm {
				continue
			}
			other := e
			other.Name = "x" + c.name
			if c.name == "" {
				want = api.ErrForm
			}
			expectValid(t, "15.1: a name", body(do(other)), want)
			other.Name = ""
			if c.name != "" {
				expectValid(t, "15.1: no name", body(do(other)), api.ErrForm)
			}
		}
	}
	for _, op := range []int{math.MinInt, -1, 0, api.ECheck + 1, math.MaxInt} {
		expectValid(t, "15.1: no such expression", body(do(api.MExpr{Op: op})), api.ErrForm)
		expectValid(t, "15.1: no such statement", body(loop(api.MStat{Op: op})), api.ErrForm)
	}
	expectValid(t, "15.1: no such statement", body(api.MStat{Op: api.STrap + 1}), api.ErrForm)
}

// TestStatShapes: each Op has so many expressions, and a Body, or an Else, or none (15.1).
func TestStatShapes(t *testing.T) {
	inside := list(do(num(1)))
	for _, c := range []struct {
		op, least, most int
		n               int64
		body, other     bool
	}{
		{api.SSet, 1, 1, 2, false, false}, {api.SStore, 2, 2, 5, false, false}, {api.SDo, 1, 1, 0, false, false}, {api.SOut, 1, 1, 0, false, false},
		{api.SIf, 1, 1, 0, true, true}, {api.SLoop, 0, 0, 0, true, false}, {api.SBreak, 0, 0, 0, false, false}, {api.SNext, 0, 0, 0, false, false},
		{api.SReturn, 0, 1, 0, false, false}, {api.STrap, 0, 0, 8, false, false},
	} {
		for n := range 4 {
			for both := range 4 {
				s := api.MStat{Op: c.op, N: c.n, Exprs: many(n, num(1))}
				want := api.OK
				if both&1 != 0 {
					s.Body = inside
				}
				if both&2 != 0 {
					s.Else = inside
				}
				if n < c.least || n > c.most || both&1 != 0 && !c.body || both&2 != 0 && !c.other {
					want = api.ErrForm
				}
				expectValid(t, "15.1: a statement", body(loop(s)), want)
			}
		}
	}
}

// TestNumbers: N at its edges, of each Op (15.1).
func TestNumbers(t *testing.T) {
	const far = 1<<31 - 1
	l := many(3, num(1))
	for _, c := range []struct {
		what        string
		least, most int64
		put         func(n int64) api.MStat
	}{
		{"EConst", math.MinInt64, math.MaxInt64, func(n int64) api.MStat { return do(num(n)) }},
		{"ELocal", 0, 2, func(n int64) api.MStat { return do(loc(n)) }},
		{"EBin", api.Add, api.Ge, func(n int64) api.MStat { return do(bin(n, num(1), num(1))) }},
		{"EUn", api.Neg, api.Bang, func(n int64) api.MStat { return do(un(n, num(1))) }},
		{"ELoad", 0, far, func(n int64) api.MStat { return do(load(n, num(1))) }},
		{"ECheck", 1, 999, func(n int64) api.MStat { return do(check(n, num(1), num(1))) }},
		{"ECall", 0, 0, func(n int64) api.MStat { return do(api.MExpr{Op: api.ECall, N: n, Name: "g"}) }},
		{"ECallAt", 0, 0, func(n int64) api.MStat { return do(api.MExpr{Op: api.ECallAt, N: n, Kids: l[:1]}) }},
		{"EData", 0, 0, func(n int64) api.MStat { return do(api.MExpr{Op: api.EData, N: n, Name: "g"}) }},
		{"ECode", 0, 0, func(n int64) api.MStat { return do(api.MExpr{Op: api.ECode, N: n, Name: "g"}) }},
		{"EAlloc", 0, 0, func(n int64) api.MStat { return do(api.MExpr{Op: api.EAlloc, N: n, Kids: l[:1]}) }},
		{"EIn", 0, 0, func(n int64) api.MStat { return do(api.MExpr{Op: api.EIn, N: n}) }},
		{"ECond", 0, 0, func(n int64) api.MStat { return do(api.MExpr{Op: api.ECond, N: n, Kids: l}) }},
		{"SSet", 0, 2, func(n int64) api.MStat { return set(n, num(1)) }},
		{"SStore", 0, far, func(n int64) api.MStat { return store(n, num(1), num(1)) }},
		{"SDo", 0, 0, func(n int64) api.MStat { return api.MStat{Op: api.SDo, N: n, Exprs: l[:1]} }},
		{"SOut", 0, 0, func(n int64) api.MStat { return api.MStat{Op: api.SOut, N: n, Exprs: l[:1]} }},
		{"SIf", 0, 0, func(n int64) api.MStat { return api.MStat{Op: api.SIf, N: n, Exprs: l[:1]} }},
		{"SLoop", 0, 0, func(n int64) api.MStat { return api.MStat{Op: api.SLoop, N: n} }},
		{"SBreak", 0, 1, func(n int64) api.MStat { return loop(loop(when(num(1), list(brk(n))))) }},
		{"SNext", 0, 1, func(n int64) api.MStat { return loop(when(num(1), nil, loop(next(n)))) }},
		{"SBreak in no loop", 0, -1, func(n int64) api.MStat { return when(num(1), list(loop()), brk(n)) }},
		{"SNext in no loop", 0, -1, func(n int64) api.MStat { return when(num(1), list(loop(), next(n))) }},
		{"SReturn", 0, 0, func(n int64) api.MStat { return api.MStat{Op: api.SReturn, N: n} }},
		{"STrap", 1, 999, func(n int64) api.MStat { return trap(n) }},
	} {
		for _, n := range []int64{math.MinInt64, -1 << 32, -1, 0, 1, 2, 3, 4, api.Ge, api.AndAnd, api.OrOr, 100, 999, 1000, far, far + 1, 1<<32 + 1, math.MaxInt64} {
			want := api.ErrForm
			if n >= c.least && n <= c.most {
				want = api.OK
			}
			expectValid(t, "15.1: "+c.what, body(c.put(n)), want)
		}
	}
	expectValid(t, "15.1: no locals", funcs(fn("f", 0, 0, do(loc(0)))), api.ErrForm)
	expectValid(t, "15.1: another's locals", funcs(fn("g", 0, 9), fn("f", 0, 1, do(loc(1)))), api.ErrForm)
}

// TestNames: each name has 1 to 60 bytes (15.1); a package's name is not looked at.
func TestNames(t *testing.T) {
	for _, c := range []struct {
		n    int
		want api.Errno
	}{{0, api.ErrForm}, {1, api.OK}, {60, api.OK}, {61, api.ErrForm}, {5000, api.ErrForm}} {
		s := strings.Repeat("\xff", c.n)
		expectValid(t, "15.1: a function's name", funcs(fn(s, 0, 0)), c.want)
		expectValid(t, "15.1: the name of datas", datas(words(s)), c.want)
		expectValid(t, "15.1: the name of a call", body(do(call(s))), c.want)
		expectValid(t, "15.1: the name in EData", body(do(data(s))), c.want)
		expectValid(t, "15.1: the name in ECode", body(do(code(s))), c.want)
		expectValid(t, "15.1: the name of a word", datas(api.MData{Name: "d", Words: list[int64](1), Refs: list(api.Ref{Name: s})}), c.want)
		expectValid(t, "15.1: a package's name", api.Module{Pkg: s}, api.OK)
	}
}

// TestUnlike: names of functions, names of datas, and places of refs are unlike (15.1).
func TestUnlike(t *testing.T) {
	f, g := fn("f", 0, 0), fn("g", 0, 0)
	expectValid(t, "15.1: two", funcs(f, g), api.OK)
	expectValid(t, "15.1: alike", funcs(f, g, f), api.ErrForm)
	expectValid(t, "15.1: alike, both weak", funcs(weak(f), g, weak(f)), api.ErrForm)
	expectValid(t, "15.1: datas", datas(words("f"), words("g")), api.OK)
	expectValid(t, "15.1: datas alike", datas(words("f"), words("g"), words("f", 1)), api.ErrForm)
	both := funcs(f)
	both.Datas = list(words("f"))
	expectValid(t, "15.1: a function's and datas' name", both, api.OK)
	for i, c := range []struct {
		want api.Errno
		l    []int
	}{
		{api.OK, nil}, {api.OK, list(0, 1, 2)}, {api.OK, list(2, 0)}, {api.ErrForm, list(3)}, {api.ErrForm, list(-1)}, {api.ErrForm, list(0, 2, 0)},
		{api.ErrForm, list(math.MaxInt)}, {api.ErrForm, list(math.MinInt)},
	} {
		d := words("d", 1, 2, 3)
		for _, at := range c.l {
			d.Refs = append(d.Refs, api.Ref{At: at, Name: "x"})
		}
		if e := tree.Valid(datas(words("e"), d)); e != c.want {
			t.Errorf("15.1: refs, case %d: %d", i, e)
		}
	}
	expectValid(t, "15.1: a place of no words", datas(api.MData{Name: "d", Refs: list(api.Ref{Name: "x"})}), api.ErrForm)
	one := api.MData{Words: list[int64](1), Refs: list(api.Ref{Name: "x"})}
	two := one
	one.Name, two.Name = "d", "e"
	expectValid(t, "15.1: one place of two datas", datas(one, two), api.OK)
}

// TestLocals: Params from 0 to 16, Locals from there to 2000 (15.1).
func TestLocals(t *testing.T) {
	for _, params := range []int{math.MinInt, -1, 0, 1, 16, 17, 2000, math.MaxInt} {
		for _, locals := range []int{math.MinInt, -1, 0, 1, 15, 16, 17, 2000, 2001, math.MaxInt} {
			want := api.ErrForm
			if params >= 0 && params <= 16 && locals >= params && locals <= 2000 {
				want = api.OK
			}
			expectValid(t, "15.1: locals", funcs(fn("f", params, locals)), want)
		}
	}
}

// deepStat is a statement in which others stand, n in one another; the innermost is that one.
func deepStat(n int, s api.MStat) api.MStat {
	for i := range n - 1 {
		switch i % 3 {
		case 0:
			s = loop(s)
		case 1:
			s = when(num(1), list(s))
		case 2:
			s = when(num(0), nil, s)
		}
	}
	return s
}

func deepExpr(n int, e api.MExpr) api.MExpr {
	for range n - 1 {
		e = un(api.Neg, e)
	}
	return e
}

// TestDepth: nothing stands in more than MaxDepth others (15.1).
func TestDepth(t *testing.T) {
	for n := 1; n <= api.MaxDepth+3; n++ {
		stats, mixed := api.OK, api.OK
		if n > api.MaxDepth+1 {
			stats = api.ErrForm
		}
		expectValid(t, "15.1: statements in one another", body(brkFree(n)), stats)
		for e := 1; n+e <= api.MaxDepth+3; e++ {
			if n+e > api.MaxDepth+1 {
				mixed = api.ErrForm
			}
			expectValid(t, "15.1: expressions in statements", body(deepStat(n, do(deepExpr(e, num(1))))), mixed)
		}
	}
	for _, n := range []int{api.MaxDepth, api.MaxDepth + 1} {
		want := api.OK
		if n > api.MaxDepth {
			want = api.ErrForm
		}
		last := deepExpr(n-1, num(1))
		expectValid(t, "15.1: the last kid", body(ret(cond(num(1), num(2), last))), want)
		expectValid(t, "15.1: the last argument", body(ret(call("g", num(1), last))), want)
		expectValid(t, "15.1: what is stored", body(store(0, num(1), deepExpr(n, num(1)))), want)
	}
	expectValid(t, "15.1: far too deep", body(do(deepExpr(19000, num(1)))), api.ErrForm)
	expectValid(t, "15.1: far too deep", body(deepStat(9000, ret())), api.ErrForm)
	expectValid(t, "15.1: far too deep, and too large", body(do(deepExpr(1<<16-2, num(1)))), api.ErrLimit)
}

// brkFree are n statements in one another, without expressions in the innermost.
func brkFree(n int) api.MStat {
	s := ret()
	for range n - 1 {
		s = loop(s)
	}
	return s
}

// TestLimits: ErrLimit is told ahead of all, of parts that may not be where they are, too (15.1).
func TestLimits(t *testing.T) {
	half := many(10000, ret())
	two := func(l ...api.MStat) api.Module { return funcs(fn("f", 0, 0, half...), fn("g", 0, 0, l...)) }
	expectValid(t, "15.1: 20000 parts", two(half...), api.OK)
	expectValid(t, "15.1: 20001 parts", two(append(half[:9999:9999], ret(num(1)))...), api.ErrLimit)
	expectValid(t, "15.1: 20000 parts", two(append(half[:9998:9998], ret(num(1)))...), api.OK)
	bad := fn("", -1, -2, half...)
	expectValid(t, "15.1: 20000 parts of a bad function", funcs(bad, fn("g", 0, 0, half...)), api.ErrForm)
	expectValid(t, "15.1: 20001 parts of a bad function", funcs(bad, fn("", 0, 0, append(half, ret())...)), api.ErrLimit)
	rest := many(19999, num(1))
	for _, s := range []api.MStat{{Exprs: rest}, {Op: api.SDo, Exprs: list(api.MExpr{Kids: rest[:19998]})}, {Op: api.SSet, Body: many(19999, ret())}, {Op: api.SLoop, Else: many(19999, ret())}, {Op: api.SReturn, Body: list(api.MStat{Else: list(api.MStat{Exprs: rest[:19997]})})}} {
		expectValid(t, "15.1: 20000 parts where none may be", body(s), api.ErrForm)
		expectValid(t, "15.1: 20001 parts where none may be", body(s, ret()), api.ErrLimit)
		expectValid(t, "15.1: 20001 parts where none may be", body(ret(), s), api.ErrLimit)
	}
	full := make([]int64, api.MaxData-1)
	expectValid(t, "15.1: all words", datas(words("d", full...), words("e", 1)), api.OK)
	expectValid(t, "15.1: too many words", datas(words("d", full...), words("e", 1, 2)), api.ErrLimit)
	expectValid(t, "15.1: too many words of bad datas", datas(words("", full...), words("", 1, 2)), api.ErrLimit)
	bad = fn("", 0, 0)
	m := funcs(bad)
	m.Datas = list(words("e", make([]int64, api.MaxData+1)...))
	expectValid(t, "15.1: too many words, and a bad function", m, api.ErrLimit)
}

// TestShared: parts that stand at many places count at each of them, and the count ends.
func TestShared(t *testing.T) {
	e := num(1)
	for range 60 {
		e = bin(api.Add, e, e)
	}
	expectValid(t, "15.1: a part at 2^60 places", body(do(e)), api.ErrLimit)
	s := ret()
	for range 60 {
		s = when(num(1), list(s), s)
	}
	expectValid(t, "15.1: a statement at 2^60 places", body(s), api.ErrLimit)
}
