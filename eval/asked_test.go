package eval_test

import (
	"testing"

	"mortise/api"
	"mortise/eval"
)

// 13.1: numbers, at their edges.
func TestNumbers(t *testing.T) {
	checkTold(t, []sample{
		{"put(48 + 7 / 2); put(48 + 7 % 2); put(48 - -7 / 2); put(48 - -7 % 2); put(48 - 7 / -2); put(48 + 7 % -2);", "done 313131"},
		{"put(1 / 0);", "panic 3"},
		{"put(1 % 0);", "panic 3"},
		{"put(0 / 0);", "panic 3"},
		{"x := -9223372036854775807 - 1; if x / -1 == x { put(65); } put(66 + x % -1); if -x == x { put(67); } if x - 1 == 9223372036854775807 { put(68); } if x * -1 == x { put(69); }", "done ABCDE"},
		{"x := 9223372036854775807; if x + 1 < 0 { put(65); } if x * 2 == -2 { put(66); } if x * x == 1 { put(67); }", "done ABC"},
		{"if 1 < 2 { put(65); } if 2 < 2 { put(66); } if 2 <= 2 { put(67); } if 3 <= 2 { put(68); } if 3 > 2 { put(69); } if 2 > 2 { put(70); } if 2 >= 2 { put(71); } if 1 >= 2 { put(72); } if 1 == 1 { put(73); } if 1 != 1 { put(74); }", "done ACEGI"},
		{"if true == true { put(65); } if true != false { put(66); } if !false { put(67); } if true == false { put(68); }", "done ABC"},
		{"panic(0);", "panic 256"},
		{"panic(255);", "panic 511"},
		{"panic(256);", "panic 256"},
		{"panic(-1);", "panic 511"},
		{"panic(1 / 0);", "panic 3"},
		{"put(65); panic(7); put(66);", "panic 263 A"},
	})
}

// 13.1: places of slices and strings.
func TestIndex(t *testing.T) {
	checkTold(t, []sample{
		{"s := []int{65, 66}; put(s[0]); put(s[1]); put(s[2]);", "panic 2 AB"},
		{"s := []int{65, 66}; put(s[-1]);", "panic 2"},
		{"s := []int{65, 66}; put(s[9223372036854775807]);", "panic 2"},
		{"s := []int{65, 66}; put(s[-9223372036854775807 - 1]);", "panic 2"},
		{"s := []int{65, 66}[0:1]; put(s[0]); put(s[1]);", "panic 2 A"},
		{"var s []int; put(s[0]);", "panic 2"},
		{"s := []int{65, 66}; s[1] = 67; put(s[1]); s[2] = 1;", "panic 2 C"},
		{"s := []int{65}; s[-1] = 1;", "panic 2"},
		{"s := \"AB\"; put(s[0]); put(s[1]); put(s[2]);", "panic 2 AB"},
		{"put(\"AB\"[-1]);", "panic 2"},
		{"put(\"\"[0]);", "panic 2"},
		{"put(\"AB\\n\\\"\\\\\"[3]);", "done \""},
		{"put(48 + len(\"\")); put(48 + len(\"AB\\n\")); put(48 + len([]int{})); put(48 + len([]int{1, 2})); var s []int; put(48 + len(s)); put(48 + len(make([]int, 5)));", "done 030205"},
	})
}

// 13.1: parts of slices and strings.
func TestParts(t *testing.T) {
	checkTold(t, []sample{
		{"s := \"ABCD\"; put(s[1:3][0]); put(s[1:3][1]); put(48 + len(s[1:3])); put(48 + len(s[:3])); put(48 + len(s[1:])); put(48 + len(s[:])); put(48 + len(s[4:])); put(48 + len(s[2:2]));", "done BC233400"},
		{"x := \"ABCD\"[3:2];", "panic 5"},
		{"x := \"ABCD\"[-1:];", "panic 5"},
		{"x := \"ABCD\"[:5];", "panic 5"},
		{"x := \"ABCD\"[5:];", "panic 5"},
		{"x := \"ABCD\"[1:3][:3];", "panic 5"},
		{"x := \"ABCD\"[9223372036854775807:];", "panic 5"},
		{"s := []int{65, 66, 67, 68}; t := s[1:3]; put(t[0]); put(48 + len(t)); t = t[:3]; put(t[2]); t = t[1:]; put(t[0]); put(48 + len(t)); t = t[:2]; put(t[1]); t = t[:3];", "panic 5 B2DC2D"},
		{"s := []int{65, 66}; x := s[2:1];", "panic 5"},
		{"s := []int{65, 66}; x := s[-1:1];", "panic 5"},
		{"s := []int{65, 66}; x := s[0:3];", "panic 5"},
		{"s := []int{65, 66}; x := s[3:];", "panic 5"},
		{"s := []int{65, 66}[:1]; x := s[2:];", "panic 5"},
		{"s := []int{65, 66}[:0]; put(48 + len(s)); x := s[1:];", "panic 5 0"},
		{"s := []int{65, 66}[:1]; put(48 + len(s[2:2])); put(s[1:2][0]);", "done 0B"},
		{"s := make([]int, 3)[1:2]; put(48 + len(s[:2])); x := s[:3];", "panic 5 2"},
		{"var s []int; t := s[:]; if t == nil { put(65); } t = s[0:0]; if t == nil { put(66); } t = s[0:1];", "panic 5 AB"},
		{"var s []int; x := s[1:];", "panic 5"},
		{"var s []int; x := s[1:0];", "panic 5"},
		{"s := []int{}; t := s[:]; if t != nil { put(65); } s = []int{1}; t = s[1:]; if t != nil { put(66); } if make([]int, 0) != nil { put(67); } put(48 + len(t));", "done ABC0"},
		{"s := append([]int{}, 1); t := s[:4]; put(48 + len(t)); put(48 + t[3]); x := s[:5];", "panic 5 40"},
		{"s := append([]int{1, 2, 3}, 1); t := s[:6]; put(48 + len(t)); x := s[:7];", "panic 5 6"},
		{"s := append([]int{1, 2, 3, 4, 5}[:4], 6); t := s[:5]; put(48 + len(t)); x := s[:6];", "panic 5 5"},
	})
}

// 13.1: append and make; arrays are shared, or not.
func TestSharing(t *testing.T) {
	checkTold(t, []sample{
		{"s := []int{1, 2}; t := s; t[0] = 5; put(48 + s[0]);", "done 5"},
		{"s := []int{1, 2, 3}; t := s[1:]; t[0] = 5; put(48 + s[1]); s[2] = 7; put(48 + t[1]);", "done 57"},
		{"s := []int{1, 2}; t := append(s, 3); t[0] = 5; put(48 + s[0]); put(48 + t[0]); put(48 + len(s)); put(48 + len(t));", "done 1523"},
		{"s := make([]int, 3)[:1]; t := append(s, 4); u := append(s, 5); put(48 + t[1]); put(48 + u[1]); put(48 + len(s)); put(48 + s[:2][1]);", "done 5515"},
		{"s := append([]int{}, 1); t := append(s, 2); u := append(s, 3); put(48 + t[1]); put(48 + len(s)); v := append(append(append(t, 4), 5), 6); v[0] = 9; put(48 + s[0]); put(48 + u[2 - 1]); put(48 + v[4]);", "done 31136"},
		{"var s []int; s = append(s, 1); if s != nil { put(48 + len(s)); }", "done 1"},
		{"s := []int{1, 2, 3, 4, 5}; t := append(s[:2], 9); put(48 + s[2]); put(48 + len(t));", "done 93"},
		{"s := append([]string{}, \"A\"); put(s[0][0]); put(48 + len(s[:4][3])); t := append([]bool{}, true)[:2]; if t[0] && !t[1] { put(66); }", "done A0B"},
		{"s := append([][]int{}, []int{1}); if s[:2][1] == nil { put(65); } f := append([]func(){}, func() { put(66); }); f[0](); if f[:3][2] == nil { put(67); }", "done ABC"},
		{"s := make([]int, 2); put(48 + s[1]); t := make([]string, 2); put(48 + len(t[1])); u := make([]bool, 1); if !u[0] { put(65); } v := make([][]int, 1); if v[0] == nil { put(66); }", "done 00AB"},
		{"put(48 + len(make([]int, 0))); make([]int, -1)[0] = 1;", "panic 6 0"},
		{"put(len(make([]int, 1000000)) / 20000); x := make([]int, 1000001);", "panic 6 2"},
		{"x := make([]int, 9223372036854775807);", "panic 6"},
		{"x := make([]int, -9223372036854775807 - 1);", "panic 6"},
		{"type T struct { s []int; } func (t *T) add(n int) { t.s = append(t.s, n); } func main() { t := &T{}; i := 0; for i < 9 { t.add(i); i = i + 1; } put(48 + len(t.s)); put(48 + t.s[8]); }", "done 98"},
	})
}

// 13.1: pointers that are nil.
func TestNil(t *testing.T) {
	const head = "type T struct { a int; n *T; f func(); i I; } type I interface { m() int; } func (t *T) m() int { if t == nil { return 7; } return t.a; } func call[A I](x A) int { return x.m(); } func (t *T) same() *T { return t; } func main() { var t *T; var i I; "
	var samples []sample
	for _, c := range []sample{
		{"put(t.a);", "panic 1"},
		{"t.a = 1;", "panic 1"},
		{"x := t.n;", "panic 1"},
		{"t = &T{}; put(48 + t.a); x := t.n; put(48 + x.a);", "panic 1 0"},
		{"put(48 + t.m()); f := t.m; put(48 + f()); put(48 + (*T).m(nil)); put(48 + (*T).m(t)); g := (*T).m; put(48 + g(&T{a: 3}));", "done 77773"},
		{"t.same().same().a = 1;", "panic 1"},
		{"i.m();", "panic 1"},
		{"f := i.m;", "panic 1"},
		{"i = &T{a: 4}; f := i.m; i = nil; put(48 + f()); i.m();", "panic 1 4"},
		{"put(48 + call(&T{a: 2})); i = &T{a: 3}; put(48 + call(i)); i = nil; call(i);", "panic 1 23"},
		{"call(t);", "panic 1"},
		{"var f func(); f();", "panic 1"},
		{"t = &T{}; t.f();", "panic 1"},
		{"t = &T{f: func() { put(65); }}; t.f(); t.f = nil; t.f();", "panic 1 A"},
	} {
		samples = append(samples, sample{head + c.text + " }", c.want})
	}
	checkTold(t, samples)
}

// 13.1: what becomes an interface may not be nil, in each place where it does.
func TestBecoming(t *testing.T) {
	const head = "type T struct { i I; j J; } type I interface { } type J interface { m(); } func (t *T) m() { } type U struct { } func to(i I) I { return i; } func give() I { var t *T; return t; } func keep[A any](x A) A { return x; } func give2[A J](x A) J { return x; } func give3[A J](x A) I { var i I = x; return i; } func give4[A J](x A) { to(x); } func give5[A J](x A) []J { return []J{x}; } func pair[A any](x A, y A) { } var pi I; func main() { var t *T; var i I; var j J; put(65); "
	var samples []sample
	for _, c := range []sample{
		{"i = t;", "panic 1 A"},
		{"var x I = t;", "panic 1 A"},
		{"pi = t;", "panic 1 A"},
		{"to(t);", "panic 1 A"},
		{"give();", "panic 1 A"},
		{"x := &T{i: t};", "panic 1 A"},
		{"(&T{}).i = t;", "panic 1 A"},
		{"x := []I{t};", "panic 1 A"},
		{"[]I{nil}[0] = t;", "panic 1 A"},
		{"x := append([]I{}, t);", "panic 1 A"},
		{"x := func() I { return t; }; put(66); x();", "panic 1 AB"},
		{"pair(i, t);", "panic 1 A"},
		{"pair(j, t);", "panic 1 A"},
		{"x := []func(J){func(x J) { }}; x[0](t);", "panic 1 A"},
		{"give2(t);", "panic 1 A"},
		{"give3(t);", "panic 1 A"},
		{"give4(t);", "panic 1 A"},
		{"give5(t);", "panic 1 A"},
		{"give2(&T{}); give3(&T{}); give4(&T{}); give5(&T{}); put(66);", "done AB"},
		{"give2(j); give3(j); give4(j); give5(j); put(66); j = &T{}; give2(j); give4(j); put(67);", "done ABC"},
		{"i = nil; to(nil); x := []I{nil}; y := &T{i: nil, j: nil}; i = j; j = keep(j); to(j); i = x[0]; pair(i, nil); pair(t, nil); keep(t); put(66);", "done AB"},
		{"i = &T{}; t = &T{}; j = t; to(t); i = j; pair(i, t); put(66);", "done AB"},
		{"if i == t { put(66); } if t == i { put(67); } if t == j { put(68); } t = &T{}; if t != i { put(69); }", "done ABCDE"},
	} {
		samples = append(samples, sample{head + c.text + " }", c.want})
	}
	checkTold(t, samples)
}

// Type variables hand on what was put in, through several functions and literals.
func TestBecomingThrough(t *testing.T) {
	const head = "type T struct { } type I interface { m(); } func (t *T) m() { } func one[A I, B any](x A, y B) { two(y, x); } func two[A any, B I](x A, y B) { f := func() func() I { return func() I { return y; }; }; g := f(); put(65); three(x, y, g); } func three[A any, B I](x A, y B, g func() I) { if g() == nil { put(66); } var l []B; l = append(l, y); var i I = l[0]; put(67); } func main() { var t *T; var i I; "
	var samples []sample
	for _, c := range []sample{
		{"one(t, 1);", "panic 1 A"},
		{"one(i, 1);", "done ABC"},
		{"one(i, t);", "done ABC"},
		{"one(&T{}, i);", "done AC"},
		{"one(t, i);", "panic 1 A"},
	} {
		samples = append(samples, sample{head + c.text + " }", c.want})
	}
	checkTold(t, samples)
}

// What a type variable brings that is no pointer may be nil, and is no pointer to anything.
func TestBringing(t *testing.T) {
	checkTold(t, []sample{
		{"type E interface { } func e[A any](x A) E { return x; } func main() { var s []int; var f func(); e(0); e(\"\"); e(false); e(s); e(f); put(65); }", "done A"},
		{"type E interface { } type T struct { } func e[A any](x A) E { return x; } func main() { if e(5) != nil { put(65); } t := e(5).(*T); }", "panic 4 A"},
		{"type E interface { } func e[A any](x A) E { return x; } func main() { if e([]int{}) == e([]int{}) { put(65); } put(66); if e(e(nil2())) == nil { put(67); } } func nil2() E { return nil; }", "done BC"},
	})
}

// 13.1: x.(T).
func TestAsserting(t *testing.T) {
	const head = "type A struct { n int; } type B struct { } type C struct { } type D struct { } type E interface { } type I interface { m(); } type J interface { m(); k(int) bool; } func (a *A) m() { put(97); } func (b *B) m() { } func (b *B) k(x int) bool { return true; } func (c *C) m() { } func (c *C) k(x bool) bool { return true; } func (d *D) k(x int) bool { return true; } func main() { var e E; var i I; "
	var samples []sample
	for _, c := range []sample{
		{"x := e.(*A);", "panic 4"},
		{"x := e.(I);", "panic 4"},
		{"x := e.(E);", "panic 4"},
		{"x := i.(*A);", "panic 4"},
		{"e = &A{n: 65}; put(e.(*A).n); e.(I).m(); x := e.(E).(I).(*A); put(x.n); if x == e { put(66); } y := e.(*B);", "panic 4 AaAB"},
		{"e = &A{}; x := e.(J);", "panic 4"},
		{"e = &B{}; x := e.(J); put(65); y := e.(*A);", "panic 4 A"},
		{"e = &C{}; x := e.(I); put(65); y := e.(J);", "panic 4 A"},
		{"e = &D{}; x := e.(E); put(65); y := e.(I);", "panic 4 A"},
		{"i = &A{}; x := i.(I); y := i.(E); put(65); z := i.(J);", "panic 4 A"},
		{"l := []E{&A{}, &B{}, &C{}, &A{}, &D{}}; n := 0; for n < 5 { x := l[n].(I); put(48 + n); n = n + 1; }", "panic 4 0123"},
		{"e = &A{n: 66}; x := e.(*A); x.n = 67; put(e.(*A).n);", "done C"},
	} {
		samples = append(samples, sample{head + c.text + " }", c.want})
	}
	checkTold(t, samples)
}

// Structs and interfaces of several packages are told apart by their packages; names of methods are not.
func TestAcrossPackages(t *testing.T) {
	texts := []string{
		"package main; import a; type T struct { } type I interface { m(); Get() int; } func (t *T) m() { put(109); } func (t *T) Get() int { return 7; } func main() { var e a.E = &T{}; x := e.(*T); put(65); e = a.New(5); put(48 + e.(*a.T).N); put(48 + e.(a.G).Get()); i := e.(I); i.m(); put(48 + a.Show(&T{})); put(48 + a.Show(i)); y := e.(*T); }",
		"package a; type T struct { N int; } type E interface { } type G interface { Get() int; } func (t *T) m() { put(110); } func (t *T) Get() int { return t.N + 1; } func New(n int) *T { return &T{N: n}; } func Show(g G) int { g.(k).m(); return g.Get(); } type k interface { m(); }",
	}
	o, _, e := eval.Run(texts, nil, far)
	if got := told(o); e != api.OK || got != "panic 4 A56nm7n6" {
		t.Errorf("%d, %s", e, got)
	}
	checkFuels(t, texts, "")
}

// 13.1: what == says of pointers, interfaces, slices, funcs, and of what type variables stand for.
func TestEqual(t *testing.T) {
	const head = "type T struct { n int; } type E interface { } func eq[A comparable](x A, y A) bool { return x == y; } func ne[A comparable](x A, y A) bool { var z A; return x != y || z == x; } func main() { p := &T{}; q := &T{}; var z *T; var e E; "
	var samples []sample
	for _, c := range []sample{
		{"if p == q { put(65); } if p == p { put(66); } if p != q { put(67); } if z == nil { put(68); } if p == nil { put(69); } if nil != p { put(70); }", "done BCDF"},
		{"e = p; if e == p { put(65); } if p == e { put(66); } if e == q { put(67); } var f E = p; if e == f { put(68); } f = q; if e == f { put(69); } f = nil; if f == nil { put(70); } if f == e { put(71); } if f == z { put(72); }", "done ABDFH"},
		{"var s []int; if s == nil { put(65); } s = []int{}; if s == nil { put(66); } if nil != s { put(67); } var f func(); if f == nil { put(68); } f = func() { }; if f != nil { put(69); }", "done ACDE"},
		{"if eq(1, 1) { put(65); } if eq(1, 2) { put(66); } if eq(\"ab\", \"a\" + \"b\") { put(67); } if eq(\"a\", \"b\") { put(68); } if eq(true, true) { put(69); } if eq(p, p) { put(70); } if eq(p, q) { put(71); } if eq(e, p) { put(72); } if eq(e, nil) { put(73); }", "done ACEFI"},
		{"if ne(1, 1) { put(65); } if ne(0, 0) { put(66); } if ne(\"\", \"\") { put(67); } if ne(\"a\", \"a\") { put(68); } if ne(false, false) { put(69); } if ne(z, nil) { put(70); } if ne(p, p) { put(71); } if ne(e, e) { put(72); }", "done BCEFH"},
		{"a := \"ab\"; if a == \"ab\" { put(65); } if a[:1] == \"a\" { put(66); } if a != \"abc\"[:2] { put(67); } if a == \"\" { put(68); } if a + \"\" == a { put(69); }", "done ABE"},
	} {
		samples = append(samples, sample{head + c.text + " }", c.want})
	}
	checkTold(t, samples)
}
