package check_test

import (
	"testing"

	"mortise/api"
)

// 10.1: which variable a name means, and from where on.
func TestScopes(t *testing.T) {
	us := units(t)
	checkRight(t, us, "var x int; func f() { x := x; x = x + 1; var y int = x; }", "func f(x int) { { x := x == 1; { x := !x; x = true; } x = false; } x = 2; }", "var x string; func f() { { x := 1; } x = \"\"; for { x := 1; break; } x = \"\"; if true { x := 1; } else if x == \"\" { x := true; x = !x; } else { x := 1; x = 2; } x = \"\"; }",
		"func f() { x := 1; g := func() int { x = 2; y := x; return y; }; y := true; y = !y; x = g(); }", "func f(g int) { h := func(g bool) bool { return g; }; g = 1; }", "func f() { f := f; f(); { f := f; f(); } }", "var x int = y; var y int = f(); func f() int { return x; }", "type T struct { } func (t *T) m() *T { return t; } var t bool; func f() { t = true; }",
		"func f() { { { x := 1; } } var x bool = true; }", "func f(n int) { x := func(n string) string { m := n; return m; }(\"\"); m := n; n = m; }", "const c = 1; func f() { c := true; c = false; } func g() int { return c; }")
	checkWrong(t, us, api.ErrName, "func f() { x := x; }", "func f() { var x int = x; }", "func f() { x = 1; x := 1; }", "func f() { { x := 1; } put(x); }", "func f() { if true { x := 1; } put(x); }", "func f() { if true { x := 1; } else { put(x); } }", "func f() { if true { } else { x := 1; } put(x); }", "func f() { for { x := 1; } put(x); }", "func f() { x := func() { x(); }; }", "func f() { var x func() = func() { x(); }; }", "func f() { g := func(y int) { z := 1; }; put(y); }", "func f() { g := func(y int) { z := 1; }; put(z); }", "func f(x int) { } func g() { put(x); }", "type T struct { } func (t *T) m() { } func f() { t.m(); }", "var x int = func() int { y := 1; return y; }() + y;", "func f() { g := func() { put(x); }; x := 1; }")
	checkWrong(t, us, api.ErrType, "var x int; func f() { x := true; x = 1; }", "var x int; func f() { { x := true; } x = true; }", "func f(x int) { { x := true; } x = true; }", "func f(f int) { f(); }", "type T struct { } func (T *T) m() int { return T; }")
}

// 10.1: statements, one by one.
func TestStatements(t *testing.T) {
	us := units(t)
	checkRight(t, us, "func f() { var x int; var y []int = nil; var z func() = nil; var s string = \"\"; var b bool = true; }", "import q; func f() { var x q.I = q.F(1); var y q.E = x; y = x; x = q.F(2); x = nil; }",
		"type T struct { a []*T; } func f(t *T) { t.a = nil; t.a[0] = t; t.a[0].a[0].a = t.a; f2().a = nil; f2().a[0] = nil; (&T{}).a = nil; []int{1}[0] = 2; t.a[0:1][0] = t; } func f2() *T { return nil; }", "var x []int; func f() { x = nil; x[0] = 1; x[1:][2] = x[0]; }", "import q; func f() { q.V = 1; q.F(1).A = 1; q.F(1).N = nil; }", "func f(g func()) { g = f2; g = nil; g = func() { }; } func f2() { }",
		"func f() { f(); get(); put(1); panic(1); func() int { return 1; }(); g()(); } func g() func() int { return nil; }", "import q; func f() { q.F(1); q.F(1).M(1); q.G(1); }", "func f() { if true { } if false { } else { } if true { } else if false { } else if true { } else { } for { } for true { } }", "func f(x bool) { if x { return; } for x { return; } return; }",
		"func f() { for { break; } for true { continue; } for { if true { break; } else { { continue; } } } for { for { break; } continue; } for { g := func() { for { break; } }; break; } }", "import q; func f() q.I { return q.F(1); } func g() q.I { return nil; }", "func f() { g := func() int { return 1; }; return; } func h() bool { g := func() { return; }; return true; }")
	checkWrong(t, us, api.ErrType, "func f() { var x int = true; }", "func f() { var x int = nil; }", "func f() { var x []int = []bool{}; }", "func f() { var x int = f(); }", "func f() { x := f(); }", "func f() { x := nil; }", "func f() { x := put(1); }", "import q; func f() { var x *q.T = q.Z(); }", "import q; func f(x q.I) { var y *q.T = x; }", "import q; func f(x q.E) { var y q.I = x; }",
		"func f() { f = f; }", "const c = 1; func f() { c = 2; }", "import q; func f() { q.C = 1; }", "func f() { 1 = 1; }", "func f(x int) { x + 1 = 1; }", "func f(x int) { -x = 1; }", "func f() { \"a\"[0] = 1; }", "func f(s string) { s[0] = 1; }", "func f(s string) { s[0:] = s; }", "func f(s []int) { s[0:] = s; }", "func f() int { f() = 1; return 1; }", "func f() { nil = nil; }", "func f() { true = false; }", "type T struct { } func (t *T) m() { } func f(t *T) { t.m = nil; }", "type T struct { } func (t *T) m() { } func f() { (*T).m = nil; }", "type I interface { m(); } func f(i I) { i.m = nil; }", "func f() { []int{} = nil; }", "type T struct { } func f() { &T{} = nil; }", "func f() { func() { } = nil; }", "type I interface { } func f(i I) { i.(I) = nil; }", "func f() { get() = 1; }",
		"func f(x int) { x = true; }", "func f(x int) { x = nil; }", "func f(x []int) { x[0] = true; }", "import q; func f() { q.V = \"\"; }", "import q; func f() { q.F(1).A = true; }", "func f(x int) { x = f(1); }", "type T struct { a int; } func f(t *T) { t.a = t; }",
		"func f() { 1; }", "func f(x int) { x; }", "func f() { f; }", "func f() { len(\"\"); }", "func f() { append([]int{}, 1); }", "func f() { make([]int, 1); }", "func f() { -get(); }", "func f() { get() + get(); }", "func f() { func() { }; }", "func f(x []func()) { x[0]; }", "func f() { nil; }", "type T struct { } func f() { &T{}; }",
		"func f() { if 1 { } }", "func f() { if nil { } }", "func f() { if f() { } }", "func f() { if true { } else if \"\" { } }", "func f() { for 1 { } }", "func f() { for f() { } }", "func f() { for f { } }",
		"func f() { break; }", "func f() { continue; }", "func f() { for { } break; }", "func f() { if true { break; } }", "func f() { for { g := func() { break; }; } }", "func f() { for { func() { continue; }(); } }", "func f() { for { } g := func() { for { } continue; }; }", "func f() { for { func() { for { } }(); } { continue; } }",
		"func f() { return 1; }", "func f() { return nil; }", "func f() { return f(); }", "func f() int { return; }", "func f() int { return true; }", "func f() int { return nil; }", "func f() int { g := func() { return 1; }; return 1; }", "func f() { g := func() int { return; }; }", "func f() { g := func() int { return true; }; }", "func f() int { g := func() bool { return 1; }; return 1; }", "type T struct { } func (t *T) m() int { return \"\"; }", "type T struct { } func (t *T) m() { return 1; }", "func f() { g := func() int { return 1; }; return 1; }", "import q; func f() *q.T { return q.Z(); }", "func f[A any](x A) A { return nil; }", "func f[A any, B any](x A, y B) A { return y; }")
}

// 10.1: functions with a result that must not run out.
func TestEnds(t *testing.T) {
	ends := []string{"return 1;", "panic(1);", "{ return 1; }", "{ { panic(1); } }", "put(1); return 1;", "return 1; return 2;", "put(1); { put(1); panic(1); }", "if true { return 1; } else { return 2; }", "if true { return 1; } else if false { panic(1); } else { for { } }", "if true { put(1); { return 1; } } else { if true { return 1; } else { return 2; } }",
		"for { }", "for { put(1); }", "for { return 1; }", "for { continue; }", "for { for { break; } }", "for { for true { if true { break; } } }", "for { g := func() { for { break; } }; }", "for { if true { return 1; } else { for { { break; } } } }", "break_ := 1; for { }", "for { break; } return 1;", "if true { } return 1;", "for { for { if true { break; } } if true { continue; } }"}
	runs := []string{"", "put(1);", "{ }", "{ put(1); }", "return 1; put(1);", "return 1; { }", "return 1; x := 1;", "{ return 1; } put(1);", "if true { return 1; }", "if true { return 1; } else { }", "if true { } else { return 1; }", "if true { return 1; } else if true { return 1; }", "if true { return 1; } else if true { } else { return 1; }", "if true { return 1; } else if true { return 1; } else { put(1); }", "if true { return 1; } if false { return 2; }",
		"for true { }", "for true { return 1; }", "for { break; }", "for { return 1; break; }", "for { if true { break; } }", "for { if true { } else { break; } }", "for { if true { } else if true { } else { { break; } } }", "for { { { break; } } }", "for { for { } break; }", "for { if true { { break; } } return 1; }", "for { } put(1);", "f();", "get();", "func() { panic(1); }();", "var x int = 1;", "x := 1; x = 2;", "func() { return; }();"}
	for _, form := range []struct{ from, to string }{{"func f() int {", "}"}, {"type T struct { } func f() { } func (t *T) m() int {", "}"}, {"func f() { } var x func() int = func() int {", "};"}, {"func f() { g := func() int {", "}; }"}, {"func f() { } func g[A any](y A) int {", "}"}} {
		for _, s := range ends {
			checkRight(t, nil, form.from+s+form.to)
		}
		for _, s := range runs {
			checkWrong(t, nil, api.ErrType, form.from+s+form.to)
		}
	}
	for _, s := range runs[:4] {
		checkRight(t, nil, "func f() {"+s+"}", "func f() { g := func() {"+s+"}; }")
	}
}
