package check_test

import (
	"slices"
	"strconv"
	"strings"
	"testing"

	"mortise/api"
	"mortise/check"
	"mortise/export"
	"mortise/kinds"
	"mortise/parse"
)

// others are the texts of other packages, each of which imports those ahead of it.
func others() []string {
	return []string{
		"package z; type Z struct { A int; b int; } func (z *Z) M() int { return 1; } func (z *Z) n() { }",
		`package q; import z; const C = 3; const c = 4; var V int; var v int; type T struct { A int; b int; N *T; } type t struct { } type I interface { M(int) int; } type J interface { m(); } type E interface { }
		func (x *T) M(n int) int { return n; } func (x *T) m() { } func F(n int) *T { return nil; } func f() { } func G[A comparable](x A) A { return x; } func g[A any](x A) { } func Z() *z.Z { return nil; } func H[A I](x A) []A { return nil; }`,
	}
}

// units are those of the other packages, the last one first.
func units(t *testing.T) []api.Unit {
	t.Helper()
	var us []api.Unit
	for _, s := range others() {
		u, _, at, e := check.Check(tree(t, s), us)
		if e != api.OK {
			t.Fatalf("%q: %d at %d", s, e, at)
		}
		us = append([]api.Unit{u}, us...)
	}
	return us
}

func tree(t *testing.T, s string) api.Node {
	t.Helper()
	n, at, e := parse.Parse(s)
	if e != api.OK {
		t.Fatalf("%q: %d at %d", s, e, at)
	}
	return n
}

// tell is what notes say, each type behind its place.
func tell(notes []api.Note) string {
	s := ""
	for _, n := range notes {
		s += strconv.Itoa(n.At) + " " + kinds.Text(n.Type) + "; "
	}
	return strings.TrimSuffix(s, " ")
}

// tellDecls is what declarations say.
func tellDecls(decls []api.Decl) string {
	kind := []string{"?", "const", "var", "struct", "interface", "func", "method"}
	s := ""
	for _, d := range decls {
		s += kind[d.Kind] + " " + d.Of + "." + d.Name + " " + strconv.FormatInt(d.Value, 10) + " " + kinds.Text(d.Type)
		for _, f := range d.Fields {
			s += ", " + f.Name + " " + kinds.Text(f.Type)
		}
		s += "; "
	}
	return strings.TrimSuffix(s, " ")
}

// checkRight holds that packages are right.
func checkRight(t *testing.T, us []api.Unit, texts ...string) {
	t.Helper()
	for _, s := range texts {
		n := tree(t, "package a; "+s)
		if u, _, at, e := check.Check(n, us); e != api.OK || at != 0 || u.Pkg != "a" {
			t.Errorf("%q: %d at %d, %q", s, e, at, ("package a; " + s)[at:])
		}
		checkTree(t, n, us)
	}
}

// checkWrong holds that packages are refused, by an error and at a node behind the package's name.
func checkWrong(t *testing.T, us []api.Unit, want api.Errno, texts ...string) {
	t.Helper()
	for _, s := range texts {
		n := tree(t, "package a; "+s)
		if u, notes, at, e := check.Check(n, us); e != want || !same(u, api.Unit{}) || len(notes) > 0 || at < len("package a; ") {
			t.Errorf("%q: %d at %d, want %d", s, e, at, want)
		}
		checkTree(t, n, us)
	}
}

// The chapter's examples; places are counted from 0 on, as everywhere.
func TestExamples(t *testing.T) {
	u, notes, at, e := check.Check(tree(t, "package a; func F(x int) int { return x + 1; }"), nil)
	if told := tellDecls(u.Decls); e != api.OK || at != 0 || told != "func .F 0 func(int) int;" {
		t.Errorf("%d at %d, %s", e, at, told)
	}
	if told := tell(notes); told != "38 int; 40 int; 42 int;" {
		t.Error(told)
	}
	checkWrong(t, nil, api.ErrType, `var x int = "";`)
	checkRight(t, nil, "func f[T any](x T) T { return x; } func g() int { return f(5); }")
}

// 10.2: a unit of all kinds of declarations, mixed.
func TestUnit(t *testing.T) {
	us := units(t)
	s := `package a; import z; import q;
		func (s *S) m(x q.I) *S { return s; } var v []func(int) *q.T = nil; const least = -9223372036854775807; func f() { } type I interface { m(q.I) *S; n(); o() I; }
		type S struct { a int; b *S; } func g[A any, B comparable, C I, D q.J](x A, y []B, z func(C) D) A { return x; } type E struct { } const c = 0; func (e *E) p() int { return 1; } type F interface { }`
	u, _, _, e := check.Check(tree(t, s), us)
	if e != api.OK || u.Pkg != "a" || len(u.Bodies) > 0 {
		t.Errorf("%d, %q, %v", e, u.Pkg, u.Bodies)
	}
	if want := []api.Import{{Name: "z", Hash: export.Hash(us[1])}, {Name: "q", Hash: export.Hash(us[0])}}; !slices.Equal(u.Imports, want) {
		t.Errorf("%v, want %v", u.Imports, want)
	}
	want := "method S.m 0 func(q.I) *a.S; var .v 0 []func(int) *q.T; const .least -9223372036854775807 none; func .f 0 func(); interface .I 0 none, m func(q.I) *a.S, n func(), o func() a.I; " +
		"struct .S 0 none, a int, b *a.S; func .g 0 func(A, []B, func(C) D) A, A none, B bool, C a.I, D q.J; struct .E 0 none; const .c 0 none; method E.p 0 func() int; interface .F 0 none;"
	if told := tellDecls(u.Decls); told != want {
		t.Errorf("%s, want %s", told, want)
	}
	checkTree(t, tree(t, s), us)
	u, notes, _, e := check.Check(tree(t, "package a;"), us)
	if e != api.OK || !same(u, api.Unit{Pkg: "a"}) || len(notes) > 0 {
		t.Errorf("of nothing: %v, %v, %d", u, notes, e)
	}
}

// 10.2: which unit an import is, and its hash.
func TestImports(t *testing.T) {
	one := api.Unit{Pkg: "p", Decls: []api.Decl{{Kind: api.DVar, Name: "X", Type: typ(api.TInt)}}}
	two := api.Unit{Pkg: "p", Decls: []api.Decl{{Kind: api.DVar, Name: "X", Type: typ(api.TBool)}, {Kind: api.DConst, Name: "Y"}}}
	deep := api.Unit{Pkg: "deep", Decls: []api.Decl{{Kind: api.DVar, Name: "X", Type: typ(api.TInt)}}}
	for range api.MaxDepth + 1 {
		deep.Decls[0].Type = slice(deep.Decls[0].Type)
	}
	us := []api.Unit{{Pkg: "o"}, one, two, deep}
	u, _, _, e := check.Check(tree(t, "package a; import p; import deep; var x int = p.X;"), us)
	if want := []api.Import{{Name: "p", Hash: export.Hash(one)}, {Name: "deep"}}; e != api.OK || !slices.Equal(u.Imports, want) {
		t.Errorf("%d, %v, want %v", e, u.Imports, want)
	}
	checkRight(t, us, "import p; import o; import deep;", "import deep; func f() { x := deep.X; x[0] = nil; }", "var o int; var p int = o;", "var a int; func f() { a = 1; }")
	checkWrong(t, us, api.ErrName, "import p; var x int = p.Y;", "import P;", "import r;", "import a;", "var x int = p.X;", "var x int = a.x;", "func f() { var x p.T; }", "var x a.T;", "var x int = a;")
	checkWrong(t, append(us, api.Unit{Pkg: "a"}), api.ErrName, "import a;")
	checkWrong(t, us, api.ErrType, "import p; var x bool = p.X;", "import o; import p; var x bool = p.X;")
	checkWrong(t, us, api.ErrTwice, "import p; import o; import p;", "import p; var p int;", "import p; const p = 1;", "import p; type p struct { }", "import p; type p interface { }", "import p; func p() { }")
}

// 10.1: this package is what its text says, whatever else has its name.
func TestOwnName(t *testing.T) {
	old, _, _, _ := check.Check(tree(t, "package a; type T struct { n int; } func (t *T) old() { } type I interface { m(); } var V bool; func F(x int) { }"), nil)
	b, _, _, e := check.Check(tree(t, "package b; import a; func T() *a.T { return nil; } func I() a.I { return nil; }"), []api.Unit{{Pkg: "a", Decls: []api.Decl{{Kind: api.DStruct, Name: "T"}, {Kind: api.DIface, Name: "I"}}}})
	if e != api.OK {
		t.Fatal(e)
	}
	us := []api.Unit{old, b}
	checkRight(t, us, "import b; type T struct { s string; } func (t *T) new() { } type I interface { n(); } var V int = 1; func F() { b.T().new(); b.I().n(); b.T().s = \"\"; F(); V = 2; }")
	checkWrong(t, us, api.ErrName, "import b; type T struct { s string; } func F() { b.T().old(); }", "import b; type T struct { s string; } func F() { b.T().n = 1; }", "import b; type I interface { } func F() { b.I().m(); }", "var x bool = V;", "var x *T;", "func f() { F(1); }", "import b; func f() { b.T().n = 1; }", "var x I;")
}

// 10.1: names of a package, of another one, and of what is in them.
func TestNames(t *testing.T) {
	us := units(t)
	checkRight(t, us, "import q; var x int = q.C; var y *q.T = q.F(q.V); var z q.I = y; func f() { q.V = y.A; y.N.N.A = 1; y.N = nil; y = &q.T{A: 1, N: nil}; put((*q.T).M(y, 1)); }",
		"import q; func f(x q.J) { x.m(); g := x.m; g(); }", "import q; func f[A q.J](x A) { x.m(); }", "import q; func f() int { return q.Z().A + q.Z().M(); }",
		"import q; func q1() { var y q.I; q := y.(*q.T); q.A = 1; var x *q.T = q; x = &q.T{}; g := (*q.T).M; put(g(x, 1)); l := []q.I{q}; }", "import q; func q1(q *q.T) int { return q.A; }")
	checkWrong(t, us, api.ErrName, "import q; var x int = q.c;", "import q; func f() { q.v = 1; }", "import q; func f() { q.f(); }", "import q; func f() { q.g(1); }", "import q; var x *q.t;", "import q; var x q.t;", "import q; var x *q.X;", "import q; var x q.X;",
		"import q; var x int = q.X;", "import q; var x int = q.M;", "import q; var x int = q.F(1).b;", "import q; func f() { q.F(1).b = 1; }", "import q; func f() { q.F(1).m(); }", "import q; func f() { q.Z().b = 1; }", "import q; func f() { q.Z().n(); }", "import q; var x *q.T = &q.T{b: 1};", "import q; var x *q.T = &q.T{c: 1};", "import q; var x *q.T = &q.T{M: nil};",
		"import q; func f() { x := (*q.T).m; }", "import q; func f() { x := (*q.t).m; }", "import q; func f() { x := &q.t{}; }", "import q; func f(x q.I) { y := x.(*q.t); }", "import q; func f(x q.I) { x.m(); }", "import q; func f[A q.t](x A) { }", "import q; func f[A q.X](x A) { }", "func f[A q.I](x A) { }", "func f() { x := q.V; }", "func f() { q.V = 1; }", "import q; var x *z.Z;", "func f(x y) { }", "var x []y;", "var x func(y);", "var x func() y;", "type T struct { x y; }", "type I interface { m(y); }", "type I interface { m() y; }", "func f() y { return 1; }",
		"func (x *T) m() { }", "type T struct { } func (x *T) m(y z) { }", "func f[A B](x A) { }", "func f[A any](x B) { }", "func f[A any](x A) { } func g(x A) { }", "func f[A any](x A) { } var x A;", "func f[A any](x A) { y := A; }", "type T struct { } func f() { x := &T{a: 1}; }", "type T struct { } func (t *T) m() { } func f() { x := &T{m: 1}; }", "type T struct { a int; } func f() { x := (*T).b; }", "func f[A any](x A) { x.m(); }", "func f[A comparable](x A) { x.m(); }", "type I interface { m(); } func f[A I](x A) { x.n(); }", "type I interface { m(); } func f(x I) { x.n(); }",
		"var x T;", "var x *T;", "func f() { x := &T{}; }", "func f() { x := (*T).m; }", "func f() { put(x); }", "func f() { x(); }", "func f() { x.y = 1; }", "func f() { x = 1; }", "func f() { x[0] = 1; }", "var x int = y;")
	checkWrong(t, us, api.ErrType, "import q; var x int = q;", "import q; func f() { q = 1; }", "import q; func f() { q(); }", "import q; var x q;", "import q; var x *q;", "import q; func f() { x := &q{}; }", "import q; var x int = q.T;", "import q; var x int = q.I;", "import q; var x q.V;", "import q; var x q.C;", "import q; var x q.F;", "import q; var x q.T;", "import q; var x *q.I;", "import q; func f() { q.C = 1; }", "import q; func f() { q.F = nil; }", "import q; func f() { x := q.G; }", "import q; func f(q int) { q.V = 1; }", "import q; func f() { q := 1; put(q.V); }", "import q; func f() { x := &q.I{}; }", "import q; func f() { x := (*q.I).M; }", "import q; func f[A q.T](x A) { }", "import q; func f[A q.V](x A) { }", "import q; func f[A q](x A) { }")
}

// 10.1: names that have to be unlike, and those that may be alike.
func TestTwice(t *testing.T) {
	us := units(t)
	for _, a := range []string{"const x = 1;", "var x int;", "type x struct { }", "type x interface { }", "func x() { }", "func x[A any](y A) { }"} {
		for _, b := range []string{"const x = 2;", "var x bool;", "type x struct { a int; }", "type x interface { m(); }", "func x() { put(1); }"} {
			checkWrong(t, us, api.ErrTwice, a+b, "var y int;"+a+"type T struct { }"+b)
		}
	}
	checkWrong(t, us, api.ErrTwice, "type T struct { a int; b int; a bool; }", "type T struct { a int; } func (t *T) a() { }", "func (t *T) a() { } type T struct { b int; a int; }", "type T struct { } func (t *T) a() { } func (u *T) a(x int) { }", "type I interface { m(); n(); m(int); }", "func f[A any, B any, A any](x A, y B) { }", "func f[A any, A comparable](x A) { }",
		"func f(a int, b int, a bool) { }", "type T struct { } func (t *T) m(a int, a int) { }", "type T struct { } func (t *T) m(t *T) { }", "var f func(int, int) = func(a int, a int) { };", "func f(a int) { var a int; }", "func f(a int) { a := 1; }", "type T struct { } func (t *T) m() { t := 1; }", "func f() { x := func(a int) { a := 1; }; }", "func f() { var a int; var a int; }", "func f() { a := 1; var a bool; }", "func f() { { a := 1; { } a := 1; } }", "func f() { for { a := 1; a := 1; } }", "func f() { if true { a := 1; a := 1; } }", "func f() { if true { } else { a := 1; a := 1; } }", "func f() { x := 1; x := func() { }; }",
		"type T struct { a int; b int; } func f() { x := &T{a: 1, b: 1, a: 1}; }", "import q; func f() { x := &q.T{A: 1, A: 1}; }")
	checkRight(t, us, "type T struct { T int; f int; } func (T *T) m(f int) { } type U struct { m int; } func (u *U) f() { } func f[f any](T f) { } type I interface { T(); f(int); I(); }", "func f(f int) int { g := 1; { f := true; { f := \"\"; f = f; } f = !f; } return f; }", "func f(a int) { if true { a := true; } else { a := \"\"; } for { a := 1; } x := func(a bool) { { a := 1; } }; }", "type T struct { } func (t *T) m() { } type U struct { } func (t *U) m() { }",
		"func f() { g := func(f int) { }; h := func(f int) { }; } func f2(g int) { }", "type a struct { a int; } func (x *a) b() { } func f(a *a) int { return a.a; }", "import q; func f[q any](x q, y *q.T) int { return q.V; }", "const A = 1; func f[A any](x A) int { return A; }")
}

// 10.1: types, and what hides their names.
func TestTypes(t *testing.T) {
	us := units(t)
	checkRight(t, us, "var x func([]func(*T, I) []bool, string) func() = nil; type T struct { t *T; i I; } type I interface { m(I, *T) []I; }", "type T struct { } func f(T int) *T { var x *T = nil; { T := x; x = T; } return &T{}; }", "type I interface { } func f() { I := 1; var x I = nil; I = 2; }",
		"func f[A any](x A) []A { var y []A = []A{x}; z := func(a A) A { return a; }; A := make([]A, 1); y = append(A, z(x)); return y; }", "type T struct { } func f[T any](x T, y []T, z func(T) T) T { var t T = z(y[0]); t = x; return t; } func g(x *T) *T { return f(x, nil, nil); }",
		"type I interface { m(); } func f[I any](x I) { var y I = x; } func g() { f(1); }", "func f[A I, B any](x A, y B) { x.m(); } type I interface { m(); }", "import q; func f[A q.I](x A) int { return x.M(1); }")
	checkWrong(t, us, api.ErrType, "var x T; type T struct { }", "var x []T; type T struct { }", "var x func(T); type T struct { }", "var x func() T; type T struct { }", "type T struct { t T; }", "type I interface { m(T); } type T struct { }", "func f(x T) { } type T struct { }", "func f() T { for { } } type T struct { }", "func f() { var x T; } type T struct { }", "func f() { x := []T{}; } type T struct { }", "func f() { x := make(T, 1); } type T struct { }", "type T struct { } type I interface { } func f(x I) { y := x.(T); }",
		"var x *I; type I interface { }", "var x x;", "var x *x;", "var x f; func f() { }", "var x *f; func f() { }", "var x c; const c = 1;", "var x *c; const c = 1;", "func (x *I) m() { } type I interface { }", "func (x *f) m() { } func f() { }", "func (x *v) m() { } var v int;", "func (x *c) m() { } const c = 1;", "import q; func (x *q) m() { }", "func f() { x := &I{}; } type I interface { }", "func f() { x := (*I).m; } type I interface { m(); }", "func f() { x := (*f).m; }", "func f() { x := &f{}; }",
		"func f[A any](x *A) { }", "type T struct { } func f[T any](x *T) { }", "type T struct { } func f[T any](x T) { y := &T{}; }", "type T struct { } func (t *T) m() { } func f[T any](x T) { y := (*T).m; }", "type I interface { } func f[A any](x I, y A) { z := x.(A); }", "func f[A T](x A) { } type T struct { }", "func f[A v](x A) { } var v int;", "func f[A f](x A) { }", "func f[A c](x A) { } const c = 1;",
		"type I interface { } func f[A I, I any](x A, y I) { }", "type I interface { } func f[I any, A I](x A, y I) { }", "type A interface { } func f[A A](x A) { }", "func f[A A](x A) { }", "func f[A B, B any](x A, y B) { }")
}

func several(n int, part string) string {
	var all []string
	for i := range n {
		all = append(all, strings.ReplaceAll(part, "#", strconv.Itoa(i)))
	}
	return strings.Join(all, ", ")
}

// 10.1: lists of MaxList, and of one more.
func TestLists(t *testing.T) {
	for _, c := range []struct{ s, part string }{
		{"type T struct { @ }", "x# int;"}, {"type I interface { @ }", "m#();"}, {"func f[@](x int) { }", "A# any"}, {"func f(@) { }", "x# int"}, {"type T struct { } func (t *T) m(@) { }", "x# int"}, {"func f() { x := func(@) { }; }", "x# int"},
		{"type I interface { m(@); }", "int"}, {"var x func(@);", "int"}, {"func f() { x := []func(@) bool{}; }", "int"}, {"func f(x func(@)) { }", "int"}, {"func f() { var x func(@) int; }", "int"}, {"type T struct { x func(@); }", "int"}, {"func f() func(@) { return nil; }", "int"}, {"func f() { x := make([]func(@), 1); }", "int"},
	} {
		for n := range api.MaxList + 3 {
			list := several(n, c.part)
			if strings.HasSuffix(c.part, ";") {
				list = strings.ReplaceAll(list, ",", "")
			}
			s := strings.Replace(c.s, "@", list, 1)
			switch {
			case n == 0 && strings.Contains(s, "[]("):
			case n > api.MaxList:
				checkWrong(t, nil, api.ErrType, s)
			default:
				checkRight(t, nil, s)
			}
		}
	}
	// Methods, statements, elements and declarations are as many as one likes; so are a method's parameters with its receiver.
	eight := several(api.MaxList, "x# int")
	checkRight(t, nil, "type T struct { "+strings.ReplaceAll(several(8, "x# int;"), ",", "")+" } "+strings.ReplaceAll(several(20, "func (t *T) m#() { }"), ",", ""), "type T struct { } func (t *T) m("+eight+") { } func f() { x := (*T).m; x(nil, "+several(8, "#")+"); }", "var x []int = []int{"+several(300, "#")+"};", strings.ReplaceAll(several(100, "var v# int = 1;"), ",", ""))
	checkWrong(t, nil, api.ErrType, "type T struct { } func (t *T) m("+eight+") { } func f() { x := (*T).m; x("+several(8, "#")+"); }")
}
