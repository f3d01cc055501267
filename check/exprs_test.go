package check_test

import (
	"strings"
	"testing"

	"mortise/api"
)

// values are expressions of which each has a type that no other one has, in the function that inside makes.
func values() []string {
	return []string{"1", `""`, "true", "nil", "t", "u", "i", "j", "l", "s", "g", "none()", "x", "y", "z"}
}

// inside is a package in which some statements stand.
func inside(s string) string {
	return "type T struct { } func (t *T) m() { } type U struct { } type I interface { m(); } type J interface { } func none() { } func f[A any, B comparable, C I](t *T, u *U, i I, j J, l []int, x A, y B, z C) { s := []*T{}; g := none; " + s + " }"
}

// tried holds that with each two of the values in place of # and ## a statement is right just if they are among those told.
func tried(t *testing.T, s string, right ...string) {
	t.Helper()
	for _, a := range values() {
		for _, b := range values() {
			told := false
			for _, pair := range right {
				told = told || pair == a+" "+b
			}
			text := inside(strings.ReplaceAll(strings.ReplaceAll(s, "##", b), "#", a))
			if told {
				checkRight(t, nil, text)
			} else {
				checkWrong(t, nil, api.ErrType, text)
			}
		}
	}
}

// 10.1: operations of two, with each two types.
func TestBinary(t *testing.T) {
	for _, op := range []string{"-", "*", "/", "%"} {
		tried(t, "var r int = # "+op+" ##;", "1 1")
	}
	tried(t, "r := # + ##;", "1 1", `"" ""`)
	tried(t, "var r int = # + ##;", "1 1")
	tried(t, "var r string = # + ##;", `"" ""`)
	for _, op := range []string{"<", "<=", ">", ">="} {
		tried(t, "var r bool = # "+op+" ##;", "1 1")
	}
	tried(t, "var r bool = # && ##;", "true true")
	tried(t, "var r bool = # || ##;", "true true")
	for _, op := range []string{"==", "!="} {
		tried(t, "var r bool = # "+op+" ##;", "1 1", `"" ""`, "true true", "t t", "u u", "i i", "j j", "y y", "t i", "i t", "t j", "j t", "u j", "j u", "i j", "j i",
			"nil t", "t nil", "nil u", "u nil", "nil i", "i nil", "nil j", "j nil", "nil l", "l nil", "nil s", "s nil", "nil g", "g nil",
			"y j", "j y")
	}
}

// 10.1: what fits what, wherever something has to fit.
func TestFits(t *testing.T) {
	fit := []string{"1 1", `"" ""`, "true true", "t t", "u u", "i i", "j j", "l l", "s s", "g g", "x x", "y y", "z z", "t i", "t j", "u j", "i j", "x j", "y j", "z i", "z j", "nil t", "nil u", "nil i", "nil j", "nil l", "nil s", "nil g"}
	tried(t, "r := ##; r = #;", fit...)
	tried(t, "r := ##; k := []func(){}; func() { r = #; }();", fit...)
	types := []struct{ v, t string }{{"1", "int"}, {`""`, "string"}, {"true", "bool"}, {"t", "*T"}, {"u", "*U"}, {"i", "I"}, {"j", "J"}, {"l", "[]int"}, {"s", "[]*T"}, {"g", "func()"}, {"x", "A"}, {"y", "B"}, {"z", "C"}}
	for _, to := range types {
		for _, from := range values() {
			told := false
			for _, pair := range fit {
				told = told || pair == from+" "+to.v
			}
			for _, s := range []string{"var r @ = #;", "r := []@{#};", "func(p @) { }(#);", "r := func() @ { return #; };", "r := append([]@{}, #);", "var k @; k = #;", "k := []@{}; k[0] = #;", "k := func(a int, b @) { }; k(1, #);"} {
				text := inside(strings.ReplaceAll(strings.ReplaceAll(s, "@", to.t), "#", from))
				if told {
					checkRight(t, nil, text)
				} else {
					checkWrong(t, nil, api.ErrType, text)
				}
			}
		}
	}
}

// only holds that a statement is right just with those of the values in place of # that are told.
func only(t *testing.T, s string, right ...string) {
	t.Helper()
	for _, v := range values() {
		text := inside(strings.ReplaceAll(s, "#", v))
		told := false
		for _, r := range right {
			told = told || r == v
		}
		if told {
			checkRight(t, nil, text)
		} else {
			checkWrong(t, nil, api.ErrType, text)
		}
	}
}

// 10.1: expressions that want one type of several.
func TestOperands(t *testing.T) {
	only(t, "r := -#;", "1")
	only(t, "r := !#;", "true")
	only(t, "if # { }", "true")
	only(t, "for # { }", "true")
	only(t, "r := #[0];", `""`, "l", "s")
	only(t, "r := l[#];", "1")
	only(t, `r := "a"[#];`, "1")
	for _, s := range []string{"r := #[0:1];", "r := #[:];", "r := #[1:];", "r := #[:1];"} {
		only(t, s, `""`, "l", "s")
	}
	for _, s := range []string{"r := l[#:];", "r := l[:#];", "r := l[0:#];", "r := l[#:1];", `r := "a"[#:];`, `r := ""[1:#];`} {
		only(t, s, "1")
	}
	only(t, "r := len(#);", `""`, "l", "s")
	only(t, "r := append(#, 1);", "l")
	only(t, "r := append(#, t);", "s")
	only(t, "r := append(l, #);", "1")
	only(t, "r := append(s, #);", "t", "nil")
	only(t, "r := make([]int, #);", "1")
	only(t, "put(#);", "1")
	only(t, "panic(#);", "1")
	only(t, "#();", "g")
	only(t, "r := #;", "1", `""`, "true", "t", "u", "i", "j", "l", "s", "g", "x", "y", "z")
	only(t, "r := #.(I);", "i", "j")
	only(t, "r := #.(J);", "i", "j")
	only(t, "r := #.(*T);", "i", "j")
	only(t, "r := #.(*U);", "j")
	for _, s := range []string{"int", "bool", "string", "[]int", "[]*T", "func()", "A", "B", "C", "[]I"} {
		only(t, "r := #.("+s+");")
	}
	only(t, "r := []int{1, #};", "1")
	only(t, "var r func(*T) = (*T).m; r(#);", "t", "nil")
}

// 10.1: what stands behind a point.
func TestSelections(t *testing.T) {
	for _, v := range values() {
		text := inside("r := " + v + ".m;")
		switch v {
		case "t", "i", "z":
			checkRight(t, nil, text, inside(v+".m();"), inside("var r func() = "+v+".m;"))
		case "u", "j", "x", "y":
			checkWrong(t, nil, api.ErrName, text)
		default:
			checkWrong(t, nil, api.ErrType, text)
		}
	}
	s := "type T struct { a int; n *T; f func(int) int; l []*T; } func (t *T) m(x int) *T { return t; } type I interface { m(int) *T; } "
	checkRight(t, nil, s+"func f(t *T, i I) { put(t.a + t.n.n.a + t.f(1) + t.l[0].m(1).a + i.m(1).m(2).n.a); t.n.l = append(t.l, i.m(1)); g := t.m; i = g(1); h := i.m; t = h(1); k := (*T).m; t = k(t, 1); t = (*T).m(nil, 1); var p func(*T, int) *T = (*T).m; t.f = func(x int) int { return x; }; }", s+"func f(t *T) { var i I = t; var j interface_ = i; } type interface_ interface { }")
	checkWrong(t, nil, api.ErrType, s+"func f(t *T) { t.a(); }", s+"func f(t *T) { t.m(); }", s+"func f(t *T) { t.m(true); }", s+"func f(t *T) { t.f(); }", s+"func f(t *T) { (*T).m(1); }", s+"func f(t *T) { (*T).m(1, t); }", s+"func f(t *T) { var g func(int) *T = (*T).m; }", s+"func f(t *T) { var g func(*T, int) *T = t.m; }", s+"func f(t *T) { put(t.n); }", s+"func f(t *T) { put(t.m(1)); }", s+"func f(t *T) { put(t.a.a); }")
	checkWrong(t, nil, api.ErrName, s+"func f(t *T) { put(t.b); }", s+"func f(i I) { put(i.a); }", s+"func f(t *T) { t.m(1).b = 1; }")
}

// 10.1: new structs and lists.
func TestMakers(t *testing.T) {
	s := "type T struct { a int; i I; l []bool; } type I interface { } "
	checkRight(t, nil, s+"var x *T = &T{};", s+"var x *T = &T{a: 1};", s+"var x *T = &T{l: nil, i: &T{i: nil}, a: len(\"\")};", s+"var x I = &T{i: x};", s+"var x [][]I = [][]I{nil, []I{}, []I{&T{}, nil}};")
	checkWrong(t, nil, api.ErrType, s+"var x *T = &T{a: true};", s+"var x *T = &T{a: nil};", s+"var x *T = &T{i: 1};", s+"var x *T = &T{l: []int{}};", s+"var x *T = &I{};", s+"var x int = &T{};", s+"var x []int = []bool{};", s+"var x []bool = []bool{true, 1};", s+"var x [][]int = [][]int{[]bool{}};", s+"func f() { x := []T{}; }", s+"func f() { x := &T{a: f()}; }")
	checkWrong(t, nil, api.ErrName, s+"var x *T = &T{b: 1};", s+"var x *T = &T{T: 1};", "func f() { x := &T{}; }", "func f() { x := []T{}; }")
}

// 10.1: calls, and how many arguments there are.
func TestCalls(t *testing.T) {
	checkRight(t, nil, "func f() func(int) func() int { return nil; } func g() { put(f()(1)()); }", "func f(a int, b bool, c string) { f(1, true, \"\"); f(get(), !b, c + c); }", "func f(g func(func())) { g(h); g(nil); g(func() { }); } func h() { }", "var x int = len(\"a\") + len([]bool{}) + get();", "func f() { panic(get()); put(len(append(append([]int{}, 1), 2))); x := make([][]int, len(\"\")); x[0] = make([]int, 1); }", "func f() { func() { }(); func(x int) int { return x; }(1); }")
	checkWrong(t, nil, api.ErrType, "func f() { f(1); }", "func f(x int) { f(); }", "func f(x int) { f(1, 2); }", "func f(x int, y bool) { f(true, 1); }", "func f(x int) { f(f(1)); }", "func f() { f()(); }", "var x int; func f() { x(); }", "const c = 1; func f() { c(); }", "func f() { 1(); }", "func f() { nil(); }", "func f() { (1 + 1)(); }", "func f(x []func()) { x(); }",
		"func f() { put(len()); }", "func f() { put(len(\"\", \"\")); }", "func f() { x := append(); }", "func f() { x := append([]int{}); }", "func f() { x := append([]int{}, 1, 2); }", "func f() { panic(); }", "func f() { panic(1, 2); }", "func f() { put(); }", "func f() { put(1, 2); }", "func f() { get(1); }", "func f() { x := make(int, 1); }", "func f() { x := make(string, 1); }", "func f() { x := make(func(), 1); }", "type T struct { } func f() { x := make(*T, 1); }", "func f[A any](x A) { y := make(A, 1); }", "func f() { put(put(1)); }", "func f() { put(panic(1)); }", "var x bool = len(\"\");", "var x bool = get();", "func f() int { return put(1); }")
}
