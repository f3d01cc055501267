package inits_test

import (
	"fmt"
	"slices"
	"strings"
	"testing"

	"mortise/api"
	"mortise/check"
	"mortise/inits"
	"mortise/parse"
)

// textOfQ is a package that those of the tests import.
const textOfQ = `package q; type T struct { N int; } type I interface { M() int; }
	var V int = 1; var W int; const C = 3; var P *T = &T{}; func F() int { return V; } func G[A any](x A) A { return x; } func (t *T) M() int { return V; }`

// unitsOf are the units of packages that import nothing.
func unitsOf(t *testing.T, texts ...string) []api.Unit {
	t.Helper()
	var us []api.Unit
	for _, s := range texts {
		u, _, at, e := check.Check(treeOf(t, s), nil)
		if e != api.OK {
			t.Fatalf("%q: %d at %d", s, e, at)
		}
		us = append(us, u)
	}
	return us
}

func treeOf(t *testing.T, s string) api.Node {
	t.Helper()
	n, at, e := parse.Parse(s)
	if e != api.OK {
		t.Fatalf("%q: %d at %d", s, e, at)
	}
	return n
}

// varsOf are a package's vars, in the order of the text.
func varsOf(n api.Node) []api.Node {
	return slices.DeleteFunc(slices.Clone(n.Kids), func(n api.Node) bool { return n.Kind != api.NVar })
}

// namesOf are the names of vars, by their numbers.
func namesOf(n api.Node, numbers []int) string {
	var names []string
	for _, i := range numbers {
		names = append(names, varsOf(n)[i].Text)
	}
	return strings.Join(names, " ")
}

// ordered are the names of the vars in the order in which they are begun; of a ring the error and the name at its place.
func ordered(t *testing.T, n api.Node, us []api.Unit) string {
	t.Helper()
	order, at, e := inits.Order(n, us)
	if e == api.OK && at == 0 {
		return namesOf(n, order)
	}
	if len(order) > 0 {
		t.Errorf("beside error %d: %v", e, order)
	}
	for _, v := range varsOf(n) {
		if v.At == at {
			return fmt.Sprint("error ", e, " ", v.Text)
		}
	}
	return fmt.Sprint("error ", e, " at ", at)
}

// needed are the names of the vars that have needs, each with what it needs.
func needed(n api.Node, us []api.Unit) string {
	var all []string
	for i, v := range varsOf(n) {
		if needs := inits.Needs(n, us, i); len(needs) > 0 {
			all = append(all, v.Text+": "+namesOf(n, needs))
		}
	}
	return strings.Join(all, "; ")
}

// ring is how ordered tells a ring, at a var.
func ring(name string) string { return fmt.Sprint("error ", api.ErrCycle, " ", name) }

// told is a package's text, and what is wanted of it.
type told struct{ text, needs, order string }

// checkTold holds what is answered of packages a that import q against what is wanted.
func checkTold(t *testing.T, cases []told) {
	t.Helper()
	us := unitsOf(t, textOfQ)
	for _, c := range cases {
		n := treeOf(t, "package a; import q; "+c.text)
		if _, _, at, e := check.Check(n, us); e != api.OK {
			t.Errorf("%s: %d at %d", c.text, e, at)
			continue
		}
		if is := needed(n, us); is != c.needs {
			t.Errorf("11.1: %s: needs %q, want %q", c.text, is, c.needs)
		}
		if is := ordered(t, n, us); is != c.order {
			t.Errorf("11.2: %s: order %q, want %q", c.text, is, c.order)
		}
	}
}

// 11.1, 11.2: the chapter's examples, numbers as they are.
func TestExamples(t *testing.T) {
	n := treeOf(t, "package a; var x int = f(); var y int = 1; func f() int { return y; }")
	order, at, e := inits.Order(n, nil)
	if !slices.Equal(order, []int{1, 0}) || at != 0 || e != api.OK {
		t.Error(order, at, e)
	}
	if needs := inits.Needs(n, nil, 0); !slices.Equal(needs, []int{1}) {
		t.Error(needs)
	}
	n = treeOf(t, "package a; var x int = x;")
	order, at, e = inits.Order(n, nil)
	if len(order) > 0 || at != 15 || e != api.ErrCycle {
		t.Error(order, at, e)
	}
	if needs := inits.Needs(n, nil, 0); !slices.Equal(needs, []int{0}) {
		t.Error(needs)
	}
}

// 11.2: again and again the first one that waits for none.
func TestOrder(t *testing.T) {
	checkTold(t, []told{
		{"", "", ""},
		{"func f() int { return 1; } const c = 1;", "", ""},
		{"var x int;", "", ""},
		{"var x int; var y int = 1; var z int; var w int = 2;", "", "y w"},
		{"var c int = 1; var b int = 2; var a int = 3;", "", "c b a"},
		{"var a int = 1; var b int = a; var c int = b;", "b: a; c: a b", "a b c"},
		{"var c int = b; var b int = a; var a int = 1;", "c: b a; b: a", "a b c"},
		// Not what the first one needs is next, but the first one that may be.
		{"var a int = c; var b int = 1; var c int = 2;", "a: c", "b c a"},
		{"var a int = d; var b int = c; var c int = 1; var d int = 2; var e int = 3;", "a: d; b: c", "c b d a e"},
		// One that waited stands ahead of those behind it, as soon as it may.
		{"var a int = b; var b int = 1; var c int = 2;", "a: b", "b a c"},
		{"var a int = c; var b int = c; var c int = 1; var d int = 2;", "a: c; b: c", "c a b d"},
		{"var a int = b + d; var b int = 1; var c int = d; var d int = 2;", "a: b d; c: d", "b d a c"},
		// Nobody waits for a var without an expression.
		{"var a int = b; var b int;", "a: b", "a"},
		{"var a int = b; var b int; var c int = a; var d int = b;", "a: b; c: a b; d: b", "a c d"},
		{"var a int = f(); var b int; var c int = 1; func f() int { b = c; return b; }", "a: b c", "c a"},
		// Consts, imports and types have no numbers.
		{"const c = 1; var x int = y; type T struct { } var y int = c;", "x: y", "y x"},
	})
}

// 11.2: rings.
func TestRings(t *testing.T) {
	checkTold(t, []told{
		{"var x int = x;", "x: x", ring("x")},
		{"var x int = 1 + (2 * -x);", "x: x", ring("x")},
		{"var a int = b; var b int = a;", "a: a b; b: a b", ring("a")},
		{"var a int = b; var b int = c; var c int = d; var d int = a;", "a: a b c d; b: a b c d; c: a b c d; d: a b c d", ring("a")},
		// The first one that needs itself, not one that needs a ring.
		{"var a int = b; var b int = c; var c int = b;", "a: b c; b: b c; c: b c", ring("b")},
		{"var x int = 1; var y int; var a int = b; var b int = 2; var c int = d + b; var d int = c;", "a: b; c: b c d; d: b c d", ring("c")},
		{"var a int = c; var b int = b; var c int = c;", "a: c; b: b; c: c", ring("b")},
		{"var a int = f(); func f() int { return a; }", "a: a", ring("a")},
		{"func f() int { return g(); } func g() int { return a; } var a int = f();", "a: a", ring("a")},
		{"var a int = f(); func f() int { a = 1; return 1; }", "a: a", ring("a")},
		{"var a func() int = func() int { return a(); };", "a: a", ring("a")},
		{"type T struct { n int; } var t *T = &T{n: t.n};", "t: t", ring("t")},
		{"type T struct { n int; } var t *T = &T{n: t.m()}; func (t *T) m() int { return 1; }", "t: t", ring("t")},
		{"type T struct { n int; } var t *T = &T{n: (*T).m(nil)}; func (x *T) m() int { return t.n; }", "t: t", ring("t")},
		// Rings of functions are none, nor is one through a var that has no expression.
		{"var a int = f(1); func f(n int) int { if n == 0 { return 0; } return g(n - 1); } func g(n int) int { return f(n); }", "", "a"},
		{"var a int; var b int = f(); func f() int { a = f(); return a; }", "b: a", "b"},
		// A function that nothing names may name what it likes.
		{"var a int = 1; func f() int { return a + b + f(); } var b int = 2;", "", "a b"},
	})
}

// 11.1: what is named directly, and through others.
func TestNeeds(t *testing.T) {
	checkTold(t, []told{
		{"var a int = f(); var b int = 1; func f() int { return g(); } func g() int { return h(); } func h() int { return b; }", "a: b", "b a"},
		{"var a int = f(); var b int = c; var c int = 1; func f() int { return b; }", "a: b c; b: c", "c b a"},
		// What a var without an expression is named beside is all that it leads to.
		{"var a int = b; var b int; func f() int { b = c; return b; } var c int = 1;", "a: b", "a c"},
		// Several ways to one are one; needs rise, whatever is named first.
		{"var z int = c + b + f() + c; var c int = b; var b int = 1; func f() int { return b + c + b; }", "z: c b; c: b", "b c z"},
		{"var z int = y + x + w; var w int = 1; var x int = 2; var y int = 3;", "z: w x y", "w x y z"},
		// A function by its name, called or not.
		{"var a func() int = f; var b int = 1; func f() int { return b; }", "a: b", "b a"},
		{"var a bool = f == nil; var b int = 1; func f() { b = 2; }", "a: b", "b a"},
		{"var a []func() = []func(){f}; var b int = 1; func f() { put(b); }", "a: b", "b a"},
		{"var a int = g(f); var b int = 1; func f() int { return b; } func g(f func() int) int { return f(); }", "a: b", "b a"},
		{"var a int = f(true); func f[A any](x A) int { return b; } var b int = 1;", "a: b", "b a"},
		// Functions' literals are part of where they stand.
		{"var a func() int = func() int { return b; }; var b int = 1;", "a: b", "b a"},
		{"var a int = f(); var b int = 1; func f() int { g := func() func() int { return func() int { return b; }; }; return 1; }", "a: b", "b a"},
		// All places of a block, done or not.
		{"var a int = f(); var b int = 1; func f() int { return 1; return b; }", "a: b", "b a"},
		{"var a int = f(); var b int = 1; func f() int { if false { return b; } return 1; }", "a: b", "b a"},
		{"var a int = f(); var b int = 1; func f() int { if false { } else { put(b); } return 1; }", "a: b", "b a"},
		{"var a int = f(); var b bool = true; func f() int { if false { } else if b { } return 1; }", "a: b", "b a"},
		{"var a int = f(); var b bool = true; func f() int { for b { break; continue; } return 1; }", "a: b", "b a"},
		{"var a int = f(); var b int = 1; func f() int { for { { panic(b); } } }", "a: b", "b a"},
		{"var a int = f(); var b int = 1; func f() int { var x int = b; return 1; }", "a: b", "b a"},
		{"var a int = f(); var b int = 1; func f() int { x := b; return 1; }", "a: b", "b a"},
		{"var a int = f(); var b int = 1; func f() int { b = 2; return 1; }", "a: b", "b a"},
		{"var a int = f(); var b int = 1; var s []int = []int{1}; func f() int { s[0] = b; return 1; }", "a: b s", "b s a"},
	})
}

// 11.1: each kind of expression that something is named in.
func TestExpressions(t *testing.T) {
	const b = " var b int = 1; var s []int = []int{1, 2}; type T struct { n int; t *T; } type I interface { }"
	var cases []told
	for _, expr := range []string{
		"b", "(b)", "-b", "1 + b", "b * 2", "1 - (2 - b)", "len([]int{b})", "len(make([]int, b))", "append([]int{1}, b)[0]", "append([]int{b}, 1)[0]",
		"[]int{1, b}[0]", "[]int{1}[b]", "[]int{1}[b:][0]", "[]int{1}[:b][0]", "[]int{1}[0:b][0]", "[]int{1}[b:1][0]", "\"x\"[b]", "len(\"x\"[b:])",
		"&T{n: b}.n", "&T{t: &T{n: b}}.t.n", "func(x int) int { return x; }(b)", "func() int { return b; }()", "q.G(b)", "q.G(&T{n: b}).n",
		"func(i I) int { return i.(*T).n; }(&T{n: b})", "func(x bool) int { return 1; }(!(b == 1))", "func(x bool) int { return 1; }(true && b < 2 || false)",
	} {
		expr = strings.ReplaceAll(expr, "&T{n: b}.n", "(&T{n: b}).n")
		expr = strings.ReplaceAll(expr, "&T{t: &T{n: b}}.t.n", "(&T{t: &T{n: b}}).t.n")
		cases = append(cases, told{"var a int = " + expr + ";" + b, "a: b", "b a s"})
		cases = append(cases, told{"var a int = f(); func f() int { return " + expr + "; }" + b, "a: b", "b a s"})
	}
	for _, expr := range []string{"s[0]", "len(s)", "append(s, 1)[0]", "s[1:][0]", "q.G(s)[0]"} {
		cases = append(cases, told{"var a int = " + expr + ";" + b, "a: s", "b s a"})
	}
	checkTold(t, cases)
}

// 11.1: a name that means a local variable is none.
func TestLocals(t *testing.T) {
	checkTold(t, []told{
		{"var a int = f(1); var b int = 1; func f(b int) int { return b; }", "", "a b"},
		{"var a int = f(); var b int = 1; func f() int { var b int = 2; return b; }", "", "a b"},
		{"var a int = f(); var b int = 1; func f() int { var b int; b = 2; return b; }", "", "a b"},
		{"var a int = f(); var b int = 1; func f() int { b := 2; return b; }", "", "a b"},
		// A variable is known behind its own statement.
		{"var a int = f(); var b int = 1; func f() int { b := b; return b; }", "a: b", "b a"},
		{"var a int = f(); var b int = 1; func f() int { var b int = b; return b; }", "a: b", "b a"},
		{"var a int = f(); var b int = 1; func f() int { put(b); b := 2; return b; }", "a: b", "b a"},
		{"var a int = f(); var b int = 1; func f() int { c := func() int { return b; }; b := 2; return b + c(); }", "a: b", "b a"},
		// It is known in its block, and within.
		{"var a int = f(); var b int = 1; func f() int { { b := 2; put(b); } return b; }", "a: b", "b a"},
		{"var a int = f(); var b int = 1; func f() int { { b := 2; { put(b); } if b == 2 { put(b); } for b == 2 { put(b); } } return 1; }", "", "a b"},
		{"var a int = f(); var b int = 1; func f() int { if true { b := 2; put(b); } else { put(b); } return 1; }", "a: b", "b a"},
		{"var a int = f(); var b int = 1; func f() int { if true { b := 2; put(b); } else if b == 1 { } return 1; }", "a: b", "b a"},
		{"var a int = f(); var b int = 1; func f() int { for true { b := 2; put(b); } put(b); return 1; }", "a: b", "b a"},
		{"var a int = f(); var b int = 1; func f() int { b := 2; { b := b; put(b); } return b; }", "", "a b"},
		// So are a literal's parameters and variables; it knows those about it.
		{"var a int = func(b int) int { return b; }(1); var b int = 1;", "", "a b"},
		{"var a int = func(b int) int { return b; }(b); var b int = 1;", "a: b", "b a"},
		{"var a int = func() int { b := 1; return b; }() + b; var b int = 1;", "a: b", "b a"},
		{"var a int = func() int { b := 1; return func() int { return b; }(); }(); var b int = 1;", "", "a b"},
		{"var a int = f(1); var b int = 1; func f(b int) int { return func() int { return b; }(); }", "", "a b"},
		{"var a int = f(); var b int = 1; func f() int { put(func(b int) int { return b; }(1)); return b; }", "a: b", "b a"},
		{"var a int = func(a int) int { return a; }(1);", "", "a"},
		// A local variable hides a function, and an import; a function's parameters are no others'.
		{"var a int = f(); var b int = 1; func g() int { return b; } func f() int { g := 1; return g; }", "", "a b"},
		{"var a int = f(g); var b int = 1; func g() int { return 2; } func f(g func() int) int { return g(); } func h() int { return b; }", "", "a b"},
		{"var a int = f(1); var b int = 1; func f(b int) int { return g(); } func g() int { return b; }", "a: b", "b a"},
		{"func f(b int) int { return b; } var a int = f(1) + b; var b int = 1;", "a: b", "b a"},
		{"type T struct { } func (b *T) m() int { if b == nil { return 1; } return 2; } var a int = (*T).m(nil); var b int = 1;", "", "a b"},
		{"type T struct { V int; } var V int = 1; var a int = f(&T{}); func f(q *T) int { return q.V; }", "", "V a"},
		// A type variable hides no var: an expression means none.
		{"func f[b any](x b) int { return b; } var a int = f(true); var b int = 1;", "a: b", "b a"},
	})
}

// 11.1: what is no name of a var, of a function or of a method of the package.
func TestOtherNames(t *testing.T) {
	checkTold(t, []told{
		{"const c = 1; var a int = c; var b int = 1;", "", "a b"},
		// Fields and their keys.
		{"type T struct { b int; } var a *T = &T{b: 1}; var b int = 1;", "", "a b"},
		{"type T struct { b int; } var a int = f().b; func f() *T { return nil; } var b int = 1;", "", "a b"},
		{"type T struct { b int; } var a int = f(); func f() int { t := &T{}; t.b = 1; return t.b; } var b int = 1;", "", "a b"},
		// What another package has by the same name.
		{"var a int = q.V; var V int = 1;", "", "a V"},
		{"var a int = q.F(); var b int = 1; func F() int { return b; }", "", "a b"},
		{"var a int = q.C + q.W; var C int = 1; var W int = 2;", "", "a C W"},
		{"var a int = q.P.N; var P int = 1; var N int = 2;", "", "a P N"},
		{"var a int = q.G(1); var b int = 1; func G() int { return b; }", "", "a b"},
		// Types, and what stands in them.
		{"type T struct { n int; } type n interface { } var a []n = []n{}; var N int = 1;", "", "a N"},
		{"var a func(int) = func(b int) { }; var b int = 1;", "", "a b"},
	})
}

// 11.1: methods by x.m with x of *T, and by (*T).m.
func TestMethods(t *testing.T) {
	const decls = "type T struct { f func() int; t *T; } type U struct { n int; } type I interface { M() int; } var t *T; var c int = 1; var d int = 2;" +
		" func (t *T) M() int { return c; } func (t *U) M() int { return d; } func g() *T { return nil; } func h[A any](x A) A { return x; } func k[A I](x A) int { return x.M(); } "
	const c, cd = "a: c", "c a d"
	checkTold(t, []told{
		{decls + "var a int = (&T{}).M();", "a: c", "c d a"},
		{"var a int = (&T{}).M(); " + decls, c, cd},
		{"var a func() int = (&T{}).M; " + decls, c, cd},
		{"var a func(*T) int = (*T).M; " + decls, c, cd},
		{"var a int = (*T).M(nil); " + decls, c, cd},
		{"var a int = g().M(); " + decls, c, cd},
		{"var a int = t.M(); " + decls, "a: t c", cd},
		{"var a int = t.t.M(); " + decls, "a: t c", cd},
		{"var a int = []*T{nil}[0].M(); " + decls, c, cd},
		{"var a int = h(&T{}).M(); " + decls, c, cd},
		{"var a int = q.G(&T{}).M(); " + decls, c, cd},
		{"var a int = func() *T { return nil; }().M(); " + decls, c, cd},
		{"var a int = func(x *T) int { return x.M(); }(nil); " + decls, c, cd},
		{"var a int = func(i I) int { return i.(*T).M(); }(nil); " + decls, c, cd},
		{"var a int = func() int { x := &T{}; return x.M(); }(); " + decls, c, cd},
		{"var a int = func() int { var x *T; return x.M(); }(); " + decls, c, cd},
		{"var a int = func(q *T) int { return q.M(); }(nil); " + decls, c, cd},
		{"var a int = func(M *T) int { return M.M(); }(nil); " + decls, c, cd},
		// The method of the struct that x leads to, not one of the same name.
		{"var a int = (&U{}).M(); " + decls, "a: d", "c d a"},
		{"var a int = (*U).M(nil) + g().M(); " + decls, "a: c d", "c d a"},
		// Of an interface, a type variable or another package's struct none.
		{"var a int = func(i I) int { return i.M(); }(&T{}); " + decls, "", "a c d"},
		{"var a int = k(&T{}); " + decls, "", "a c d"},
		{"var a I = &T{}; " + decls, "", "a c d"},
		{"var a int = func(i q.I) int { return i.M(); }(&T{}); " + decls, "", "a c d"},
		{"var a int = q.P.M(); " + decls, "", "a c d"},
		{"var a int = (&q.T{}).M() + (*q.T).M(nil); " + decls, "", "a c d"},
		// A field is no method; what it holds is not named by it.
		{"var a int = (&T{f: nil}).f(); func f() int { return c; } " + decls, "", "a c d"},
		{"var a int = (&T{f: f}).f(); func f() int { return c; } " + decls, c, cd},
		// A function or a var of a method's name is another thing.
		{"var a int = (&T{}).M(); var M int = 3; " + decls, c, "M c a d"},
		{"var a int = M(); func M() int { return d; } " + decls, "a: d", "c d a"},
		{"var a int = M; var M int = 3; " + decls, "a: M", "M a c d"},
		// Methods lead on, to others and to themselves.
		{"type S struct { } var a int = (&S{}).m(1); func (s *S) m(n int) int { if n == 0 { return s.n(); } return s.m(n - 1); } func (s *S) n() int { return b; } var b int = 1;", "a: b", "b a"},
	})
}

// 11.3: each var stands behind all that it needs; a long way, all over the text.
func TestLong(t *testing.T) {
	var text strings.Builder
	text.WriteString("package a;")
	const count = 120
	for i := range count - 1 {
		fmt.Fprintf(&text, "var v%d int=f%d();func f%d()int{return v%d;}", i, i, i, i+1)
	}
	fmt.Fprintf(&text, "var v%d int=1;", count-1)
	n := treeOf(t, text.String())
	var falling []int
	for i := range count {
		falling = append(falling, count-1-i)
	}
	order, at, e := inits.Order(n, nil)
	if !slices.Equal(order, falling) || at != 0 || e != api.OK {
		t.Error("11.2:", order, at, e)
	}
	needs := inits.Needs(n, nil, 0)
	slices.Reverse(falling)
	if !slices.Equal(needs, falling[1:]) {
		t.Error("11.1:", needs)
	}
}
