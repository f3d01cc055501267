package check_test

import (
	"strings"
	"testing"

	"mortise/api"
	"mortise/check"
)

// 10.1: functions with type variables are called, and nothing else.
func TestGeneric(t *testing.T) {
	us := units(t)
	s := "type T struct { } func (t *T) m() { } type I interface { m(); } func id[A any](x A) A { return x; } func same[A comparable](x A, y A) bool { return x == y; } func via[A I](x A) A { x.m(); return x; } func map_[A any, B any](f func(A) B, l []A) []B { return []B{f(l[0])}; } func first[A any](l []A, x A) A { return l[0]; } "
	checkRight(t, us, s+"func f() { var a int = id(1); var b string = id(\"\"); var c []bool = id([]bool{}); var d func() int = id(func() int { return 1; }); var e *T = id(&T{}); var g I = id(d2()); put(id(id(a))); var h func(int) bool = id(k); } func d2() I { return nil; } func k(n int) bool { return true; }",
		s+"func f() bool { return same(1, 2) && same(\"\", \"a\") && same(true, false) && same(&T{}, nil) && same(id(1), get()); }", s+"func f(i I) { var x *T = via(&T{}); i = via(i); i = via(x); }", s+"func f() { var x []bool = map_(func(n int) bool { return n == 1; }, []int{1}); var y []*T = map_(func(s string) *T { return nil; }, nil); }",
		s+"func f(i I) { i = first([]I{}, &T{}); i = first([]I{}, nil); }", s+"func f[A any, B comparable, C I](x A, y B, z C, w []A) { x = id(x); w = id2(w); x = first(w, x); same(y, y); z = via(z); z = id(z); y = id(y); var l []B = map_(func(x A) B { return y; }, w); } func id2[A any](x []A) []A { return x; }",
		s+"func f[A any](x A) A { return f(x); }", s+"func f[A any, B any](x A, y B) { f(y, x); f(1, x); f(x, []int{}); }", "import q; func f() *q.T { var l []*q.T = q.H(q.F(1)); put(q.G(1)); return q.G(q.F(1)); }", "import q; func f(x q.I) []q.I { return q.H(x); }", "import q; func f[A q.I](x A) []A { return q.H(x); }",
		"func f[A any](g func(func(A)), x A) { } func g(h func(int)) { h(1); } func k() { f(g, 1); }", "func f[A any](x A, g func(A)) { f(1, func(n int) { }); f([]func(){}, nil); }", "func f() { id := 1; put(id); } func id[A any](x A) A { return x; }")
	checkWrong(t, us, api.ErrType, s+"func f() { g := id; }", s+"var x func(int) int = id;", s+"func f() { id = nil; }", s+"func f() { x := id(id); }", s+"func f() { id(1) = 2; }", s+"func f() { if id == nil { } }", s+"func f() { id.x(); }", s+"func f() { x := []func(int) int{id}; }", "import q; var x func(int) int = q.G;",
		s+"func f() { id(nil); }", s+"func f() { id(f()); }", s+"func f() { id(); }", s+"func f() { id(1, 2); }", s+"func f() { same(1); }", s+"func f() { same(1, 2, 3); }", s+"func f() { same(1, true); }", s+"func f() { same(nil, &T{}); }", s+"func f() { same([]int{}, []int{}); }", s+"func f() { same(f, f); }", s+"func f() { same(id(f), f); }", s+"func f() { via(1); }", s+"func f() { via(\"\"); }", s+"func f() { via([]*T{}); }", s+"type U struct { } func f() { via(&U{}); }", s+"type J interface { } func f(j J) { via(j); }", s+"type J interface { m(int); } func f(j J) { via(j); }",
		s+"func f() { var x bool = id(1); }", s+"func f() { map_(nil, []int{}); }", s+"func f() { map_(func(n int) { }, []int{}); }", s+"func f() { map_(func(n int) bool { return true; }, []bool{}); }", s+"func f() { map_(1, []int{}); }", s+"func f() { var x []int = map_(func(n int) bool { return true; }, []int{}); }", s+"func f(i I) { first([]*T{}, i); }", s+"func f() { first(nil, nil); }",
		s+"func f[A any](x A) { same(x, x); }", s+"func f[A I](x A) { same(x, x); }", s+"func f[A any](x A) { via(x); }", s+"func f[A comparable](x A) { via(x); }", s+"func f[A any](x A) { id([]A{}); }", s+"func f[A any](x A) { id(func(y A) { }); }", s+"func f[A any](x A) { id(func() A { return x; }); }", s+"func f[A any](x A) { id([][]A{}); }", s+"func f[A any](x []A) { first([][]A{}, x); }", s+"func f[A any](x A) A { return id(1); }", s+"func f[A any](x A) int { return id(x); }", s+"func f[A any](x A) { map_(func(n int) []A { return nil; }, []int{}); }",
		"func f[A any]() { } func g() { f(); }", "func f[A any, B any](x A) { } func g() { f(1); }", "func f[A any](x func(A)) { } func g() { f(func() { }); }", "func f[A any](x []A) { } func g() { f(1); }", "func f[A any](x int, y A) { } func g() { f(true, 1); }", "import q; func f() { q.G([]int{}); }", "import q; func f() { q.H(1); }", "import q; func f() { q.H(q.Z()); }", "func f() { id := 1; id(1); } func id[A any](x A) A { return x; }")
	checkWrong(t, us, api.ErrName, s+"func f() { id(x); }", "func f() { id(1); }", "import q; func f() { q.g(1); }", s+"func id2() { x := id(&T{}).y; }")
}

// sized is a type that has so many parts: functions of ints within functions.
func sized(parts int) string {
	parts--
	var args []string
	for i := range api.MaxList {
		n := (parts + i) / api.MaxList
		switch {
		case n == 1:
			args = append(args, "int")
		case n > 1:
			args = append(args, sized(n))
		}
	}
	return "func(" + strings.Join(args, ", ") + ")"
}

// 10.1: what is put in the place of a type variable has at most 200 parts.
func TestParts(t *testing.T) {
	for _, c := range []struct{ head, param, arg string }{
		{"func f[A any](x A) { }", "@", "x"}, {"func f[A any](x []A) { }", "[]@", "x"}, {"func f[A any](x func(int, func() A)) { }", "func(int, func() @)", "x"}, {"func f[A any, B any](y B, x A) { }", "@", "1, x"}, {"func f[A any](x A) A { return x; }", "@", "x"}, {"func f[A any](x A, y func([]A, A) A) { }", "@", "x, nil"}, {"func f[A any](x []A, y A) { }", "@", "nil, x"},
	} {
		for _, parts := range []int{1, 2, 9, 10, 100, 199, 200, 201, 202, 400} {
			of := sized(parts)
			s := c.head + " func g(x " + strings.Replace(c.param, "@", of, 1) + ") { f(" + c.arg + "); }"
			if parts <= 200 {
				checkRight(t, nil, s)
			} else {
				checkWrong(t, nil, api.ErrType, s)
			}
		}
	}
	// Both what stands in a slice and the slice count, and so do results.
	slices := strings.Repeat("[]", 9)
	checkRight(t, nil, "func f[A any](x A) { } func g(x "+slices+sized(191)+") { f(x); }", "func f[A any](x A) { } func g(x func(int) "+sized(198)+") { f(x); }")
	checkWrong(t, nil, api.ErrType, "func f[A any](x A) { } func g(x "+slices+sized(192)+") { f(x); }", "func f[A any](x A) { } func g(x func(int) "+sized(199)+") { f(x); }")
	// What comes out may have more.
	n := tree(t, "package a; func f[A any](x A) func(A, A, A) { return nil; } func g(x "+sized(200)+") { y := f(x); }")
	if _, notes, _, e := check.Check(n, nil); e != api.OK || len(notes) != 5-1 || len(within(notes[1].Type)) != 1+200+1+600 || len(within(notes[2].Type)) != 601 {
		t.Errorf("%d, %d notes", e, len(notes))
	}
}
