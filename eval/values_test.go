package eval_test

import (
	"testing"

	"mortise/api"
	"mortise/eval"
)

// Values: what is zero.
func TestZero(t *testing.T) {
	const head = "type T struct { a int; b bool; c string; d *T; e []int; f func(); g I; } type I interface { } var a int; var b bool; var c string; var d *T; var e []int; var f func(); var g I; func zero[A comparable](x A) bool { var y A; return x == y; } func spare[A comparable](x A) bool { l := append(make([]A, 1), x)[:3]; return zero(l[0]) && l[1] == x && zero(l[2]); } "
	checkTold(t, []sample{
		{head + "func main() { put(48 + a); if !b { put(48 + len(c)); } if d == nil && e == nil && f == nil && g == nil { put(65); } }", "done 00A"},
		{head + "func main() { var a int; var b bool; var c string; var d *T; var e []int; var f func(); var g I; put(48 + a); if !b { put(48 + len(c)); } if d == nil && e == nil && f == nil && g == nil { put(65); } }", "done 00A"},
		{head + "func main() { t := &T{}; put(48 + t.a); if !t.b { put(48 + len(t.c)); } if t.d == nil && t.e == nil && t.f == nil && t.g == nil { put(65); } }", "done 00A"},
		{head + "func main() { t := &T{c: \"x\", a: 3}; put(48 + t.a); if !t.b { put(48 + len(t.c)); } if t.d == nil && t.e == nil && t.f == nil && t.g == nil { put(65); } }", "done 31A"},
		{head + "func main() { if zero(0) && zero(\"\") && zero(false) && zero(d) && zero(g) { put(65); } if zero(1) || zero(\"a\") || zero(true) || zero(&T{}) { put(66); } }", "done A"},
		{head + "func main() { if spare(1) && spare(\"a\") && spare(true) && spare(&T{}) { put(65); } }", "done A"},
		{"var l []I = make([]I, 3); type I interface { } func f[I any](x []I) int { var y I; z := make([]I, 2); return len(z); } func main() { if l[2] == nil { put(48 + f(l)); put(48 + f([]int{})); } }", "done 22"},
		{"func f[A any](x A, n int) []A { if n == 0 { return make([]A, 1); } return f(x, n - 1); } func main() { put(48 + f(1, 2)[0]); put(48 + len(f(\"a\", 1)[0])); if f([]int{1}, 3)[0] == nil { put(65); } if !f(true, 0)[0] { put(66); } }", "done 00AB"},
	})
}

// Values: a literal has the variables themselves that are known where it stands.
func TestLiterals(t *testing.T) {
	checkTold(t, []sample{
		{"x := 1; f := func() { x = x + 1; }; f(); f(); put(48 + x); x = 7; g := func() int { return x; }; x = 8; put(48 + g());", "done 38"},
		{"x := 1; f := func() int { return x; }; { x := 5; put(48 + f()); put(48 + x); } x = 2; put(48 + f());", "done 152"},
		{"var l []func() int; i := 0; for i < 3 { j := i; l = append(l, func() int { j = j + 1; i = i + 1; return j; }); i = i + 1; } put(48 + l[0]()); put(48 + l[0]()); put(48 + l[1]()); put(48 + l[2]()); put(48 + i);", "done 12237"},
		{"func counter(n int) func() int { return func() int { n = n + 1; return n; }; } func main() { a := counter(0); b := counter(5); a(); put(48 + a()); put(48 + b()); put(48 + a()); }", "done 263"},
		{"func both() []func(int) int { x := 0; return []func(int) int{func(n int) int { x = x + n; return x; }, func(n int) int { x = x * n; return x; }}; } func main() { l := both(); l[0](3); l[1](2); put(48 + l[0](1)); put(48 + both()[0](1)); }", "done 71"},
		{"x := 1; f := func(a int) func(int) int { y := a + x; return func(b int) int { x = x + 1; y = y + b; return x * 10 + y; }; }; g := f(2); h := f(4); put(g(1)); put(h(1)); put(g(1)); put(h(0));", "done \x18$-8"},
		{"var f func(int) int; f = func(n int) int { if n < 2 { return 1; } return n * f(n - 1); }; put(f(5)); g := f; f = nil; put(g(1)); g(2);", "panic 1 x\x01"},
		{"type T struct { f func() int; n int; } func main() { t := &T{n: 3}; t.f = func() int { return t.n; }; u := t; t = &T{n: 5}; put(48 + u.f()); }", "done 5"},
		{"func main() { for { x := 1; f := func() { x = 2; }; f(); put(48 + x); break; } }", "done 2"},
		{"var f func() int = func() int { v = v + 1; return v; }; var v int; func main() { f(); put(48 + f()); v = 7; put(48 + f()); }", "done 28"},
		{"func f(x int) int { x = x + 1; { x := x * 2; x = x + 1; put(48 + x); } return x; } func main() { y := 1; put(48 + f(y)); put(48 + y); }", "done 521"},
		{"func f[A any](x A) func() A { var l []A; return func() A { l = append(l, x); y := l[len(l) - 1]; return y; }; } func main() { put(48 + f(3)()); put(f(\"A\")()[0]); }", "done 3A"},
	})
}

// Values: a func that a method is has its receiver as it was.
func TestMethods(t *testing.T) {
	const head = "type T struct { n int; } type I interface { have() int; add(int) *T; } func (t *T) have() int { return t.n; } func (t *T) add(n int) *T { t.n = t.n + n; return t; } func use(f func() int) int { return f(); } func make2(x I) []func() int { return []func() int{x.have, x.add(1).have}; } "
	checkTold(t, []sample{
		{head + "func main() { t := &T{n: 1}; f := t.have; t.n = 2; put(48 + f()); t = &T{n: 5}; put(48 + f()); put(48 + use(t.have)); }", "done 225"},
		{head + "func main() { t := &T{n: 1}; put(48 + t.add(2).add(3).have()); put(48 + t.n); g := t.add; g(1); g(1); put(48 + t.n); h := (*T).add; h(t, -3); put(48 + t.have()); }", "done 6685"},
		{head + "func main() { t := &T{n: 1}; var i I = t; f := i.have; i.add(4); i = &T{n: 9}; put(48 + f()); put(48 + i.have()); l := make2(i); put(38 + l[0]()); put(38 + l[1]()); }", "done 5900"},
		{head + "func main() { var x func(*T, int) *T = (*T).add; t := &T{}; put(48 + x(x(t, 1), 1).n); put(48 + (*T).have((*T).add(t, 3))); }", "done 25"},
		{"type T struct { m2 func() int; } func (t *T) m() int { return 1; } func main() { t := &T{}; t.m2 = t.m; put(48 + t.m2()); t.m2 = func() int { return 2; }; put(48 + t.m2() + t.m()); }", "done 13"},
	})
}

// Names hide each other as layer 10 has it; types are not hidden by variables.
func TestNames(t *testing.T) {
	checkTold(t, []sample{
		{"type T struct { T int; } func f(T int) *T { return &T{T: T}; } func main() { put(48 + f(3).T); }", "done 3"},
		{"type I interface { } func f[I any](x I) I { var y I; return x; } var g []I = make([]I, 1); func main() { var I int; var y []I = g; if y[0] == nil { put(48 + f(I + 4)); } }", "done 4"},
		{"type I interface { } func main() { if g[1] == nil { put(48 + f(3)); } } var g []I = make([]I, 2); func f[I any](x I) I { return x; }", "done 3"},
		{"type I interface { } type T struct { } func main() { put(48 + (&T{}).m(3)); } func f[I any](x I) I { return x; } func (t *T) m(n int) int { if make([]I, 1)[0] == nil { var y I; if y == nil { return f(n); } } return 0; }", "done 3"},
		{"const c = 5; var v int = 6; func f() int { return c + v; } func main() { c := 1; put(48 + c); { v := c + 1; put(48 + v); c := v + 1; put(48 + c); } v = 1; put(48 + f()); put(48 + c); }", "done 12361"},
		{"func f() int { return 1; } func main() { f := func() int { return f() + 1; }; put(48 + f()); { f := 5; put(48 + f); } put(48 + f()); }", "done 252"},
		{"x := 1; x = x + 1; { y := x; x := y + 1; put(48 + x); } if x == 2 { x := 7; put(48 + x); } else { x = 8; } put(48 + x);", "done 372"},
		{"func main() { main := 3; put(48 + main); } func k() { main(); }", "done 3"},
		{"type T struct { n int; } func (t *T) t() int { { t := t.n; return t; } } func main() { T := &T{n: 4}; put(48 + T.t()); }", "done 4"},
		{"const big = 9223372036854775807; const least = -9223372036854775807; func main() { if big + 2 == least { put(65); } }", "done A"},
	})
}

// A variable hides the package of its name; names of other packages mean what these declare.
func TestNamesOfPackages(t *testing.T) {
	texts := []string{
		"package main; import a; const K = 7; type T struct { V int; } func (t *T) Get() int { return 8; } func F() int { return 9; } func main() { put(48 + a.V); put(48 + a.K); put(48 + a.F()); put(48 + (*a.T).Get(&a.T{})); put(48 + (*T).Get(&T{})); { a := &T{V: 5}; put(48 + a.V); a.V = 6; put(48 + a.V); f := func() int { return a.Get(); }; put(48 + f()); } a.V = 4; put(48 + a.V); use(&T{V: 2}); put(48 + (&a.T{V: 1}).V); g := a.F; put(48 + g()); } func use(a *T) { put(48 + a.V); }",
		"package a; const K = 2; type T struct { V int; } func (t *T) Get() int { return V + 3; } var V int = 1; func F() int { return V + 2; }",
	}
	o, _, e := eval.Run(texts, nil, far)
	if got := told(o); e != api.OK || got != "done 1234856"+"84216" {
		t.Errorf("%d, %s", e, got)
	}
}

// Statements lead where they say.
func TestWays(t *testing.T) {
	checkTold(t, []sample{
		{"i := 0; for i < 9 { i = i + 1; if i % 2 == 0 { continue; } if i > 6 { break; } put(48 + i); } put(65);", "done 135A"},
		{"i := 0; for { j := 0; for { if j == i { break; } j = j + 1; put(48 + j); } i = i + 1; if i == 3 { break; } continue; }", "done 112"},
		{"func f(n int) int { for { if n > 3 { return n; } { n = n + 1; } } } func main() { put(48 + f(0)); put(48 + f(7)); }", "done 47"},
		{"func f() { for true { for true { { return; } } } } func main() { f(); put(65); return; }", "done A"},
		{"func f(n int) int { if n == 0 { return 1; } else if n == 1 { return 2; } else { return 3; } } func main() { put(48 + f(0)); put(48 + f(1)); put(48 + f(2)); }", "done 123"},
		{"func f() int { panic(3); } func main() { put(65); f(); put(66); }", "panic 259 A"},
		{"func f() int { { return 5; } } func main() { f(); put(48 + f()); }", "done 5"},
		{"func f(n int) int { if n < 2 { return n; } return f(n - 1) + f(n - 2); } func main() { put(f(10)); }", "done 7"},
		{"func even(n int) bool { if n == 0 { return true; } return odd(n - 1); } func odd(n int) bool { if n == 0 { return false; } return even(n - 1); } func main() { if even(20) { put(65); } if even(21) { put(66); } }", "done A"},
		{"for { x := 1; if x == 1 { y := 2; if y == 2 { z := 3; if z == 3 { break; } } } } x := 5; put(48 + x);", "done 5"},
	})
}
