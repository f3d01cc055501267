package eval_test

import (
	"strings"
	"testing"

	"mortise/api"
	"mortise/eval"
)

// things are declarations for tests of what stands behind them.
const things = "const c = 7; var v int; var vf func(); type T struct { a int; n *T; s []int; } type I interface { m() int; } type E interface { } func (t *T) m() int { return 1; } func (t *T) k(x int) { } func none() { } func one() int { return 1; } func eq[A comparable](x A, y A) bool { return x == y; } "

// of puts main's statements behind things.
func of(stats string) string { return things + "func main() { " + stats + " }" }

const other = "package a; const C = 3; var V int; func F(x int) int { return x; }"

// 13.1, Steps: statements.
func TestStepsOfStatements(t *testing.T) {
	checkCounts(t, []counts{
		{"", 0, 0},
		{"var x int;", 1, 2},
		{"var x int = 1;", 2, 2},
		{"x := 1;", 2, 2},
		{"x := 1; x = 2;", 2 + 2, 2},
		{"{ }", 1, 0},
		{"{ { } { } }", 3, 0},
		{"if true { }", 2, 0},
		{"if true { put(1); } else { { } }", 2 + 3, 0},
		{"if false { put(1); }", 2, 0},
		{"if false { put(1); } else { }", 2, 0},
		{"if false { put(1); } else { { } }", 2 + 1, 0},
		{"if true { } else if true { }", 2, 0},
		{"if false { } else if true { }", 2 + 2, 0},
		{"if false { } else if false { } else { }", 2 + 2, 0},
		{"for false { }", 1 + 2, 0},
		{"for { break; }", 1 + 1 + 1, 0},
		{"for { { break; } }", 1 + 1 + 2, 0},
		{"for { for { break; } break; }", 1 + 1 + (1 + 1 + 1) + 1, 0},
		{"for { if true { break; } }", 1 + 1 + 2 + 1, 0},
		{"i := 0; for i < 1 { i = i + 1; continue; }", 2 + 1 + (1 + 3 + 4 + 1) + (1 + 3), 2},
		{"i := 0; for { if i == 1 { break; } i = i + 1; }", 2 + 1 + (1 + 4 + 4) + (1 + 4 + 1), 2},
		{"for true { return; put(1); }", 1 + 2 + 1, 0},
		{"return; put(1);", 1, 0},
		{of("none();"), 3, 0},
		{of("one();"), 3 + 2, 0},
		{"func() { }();", 3, 3},
		{"func() { return; put(1); }();", 4, 3},
		{of("v = 1;"), 2, 0},
		{"put(1);", 3, 0},
	})
}

// 13.1, Steps: expressions are all that layer 10 has notes of.
func TestStepsOfExpressions(t *testing.T) {
	checkCounts(t, []counts{
		{"put(1 + 2 * 3);", 2 + 5, 0},
		{"put((1));", 3, 0},
		{"put(-1);", 4, 0},
		{"if !true { }", 1 + 2, 0},
		{of("put(c);"), 3, 0},
		{of("put(v);"), 3, 0},
		{"import a; func main() { put(a.C); put(a.V); }", 3 + 3, 0},
		{"import a; func main() { put(a.F(1)); }", 2 + 3 + 2, 2},
		{"if true || 1 / 0 == 1 { }", 1 + 2, 0},
		{"if false && 1 / 0 == 1 { }", 1 + 2, 0},
		{"if false || true { }", 1 + 3, 0},
		{"if true && false { }", 1 + 3, 0},
		{"put([]int{1, 2}[0]);", 2 + 5, 8},
		{"put(len([]int{}));", 2 + 2, 6},
		{"put(len(\"abc\"));", 2 + 2, 0},
		{"put(get());", 2 + 1, 0},
		{of("put((&T{a: 1}).a);"), 2 + 3, 5},
		{of("x := &T{};"), 2, 7},
		{of("x := (*T).m;"), 2, 2},
		{of("x := (&T{}).m;"), 3, 2 + 4 + 5},
		{of("x := []E{&T{}}[0].(*T);"), 1 + 5, 2 + 7 + 5},
		{of("x := one;"), 2, 2},
		{of("if vf == nil { }"), 1 + 3, 0},
		{"x := \"abc\"[1];", 4, 2},
		{"x := \"abc\"[:];", 3, 2 + 7},
		{"x := \"abc\"[1:];", 4, 2 + 6},
		{"x := \"abc\"[:2];", 4, 2 + 6},
		{"x := \"abc\"[1:2];", 5, 2 + 5},
		{"x := make([]int, 1);", 4, 2 + 7},
		{"x := func(y int) int { return y; };", 2, 2 + 3},
		{"put(func(y int) int { return y; }(2));", 2 + 3 + 2, 3 + 2},
	}, other)
}

// 13.1, Steps: a left side takes none, what stands within it does.
func TestStepsOfLeftSides(t *testing.T) {
	checkCounts(t, []counts{
		{"x := 1; x = x;", 2 + 2, 2},
		{of("v = c;"), 2, 0},
		{"import a; func main() { a.V = 1; }", 2, 0},
		{of("(&T{}).a = 1;"), 1 + 1 + 1, 5},
		{of("x := &T{}; x.a = 1;"), 2 + 3, 2 + 5},
		{of("x := &T{n: &T{}}; x.n.a = 1;"), 3 + 1 + 2 + 1, 2 + 5 + 5},
		{"[]int{1}[0] = 2;", 1 + 2 + 1 + 1, 7},
		{"x := [][]int{[]int{1}}; x[0][0] = 2;", 4 + 1 + 3 + 1 + 1, 2 + 7 + 7},
		{of("x := &T{s: []int{1}}; x.s[one() - 1] = 2;"), 4 + 1 + 2 + (4 + 2) - 2 + 1 + 1 + 1, 2 + 5 + 7},
	}, other)
}

// 13.1, Steps: those that hang on how long something is.
func TestStepsOfLengths(t *testing.T) {
	checkCounts(t, []counts{
		{"x := \"ab\" + \"cde\";", 4 + 5, 2 + 9},
		{"x := \"\" + \"\";", 4, 2 + 4},
		{"x := \"ab\" + \"c\" + \"d\";", 6 + 3 + 4, 2 + 7 + 8},
		{"if \"ab\" == \"abc\" { }", 4 + 2, 0},
		{"if \"abc\" != \"ab\" { }", 4 + 2, 0},
		{"if \"xyz\" == \"abc\" { }", 4 + 3, 0},
		{"if \"xyz\" == \"\" { }", 4, 0},
		{"var s string; if s == \"abc\" { }", 1 + 4, 2},
		{of("eq(\"abc\", \"ab\");"), 5 + 4 + 2, 4 + 4},
		{of("eq(1, 2);"), 5 + 4, 4 + 4},
		{of("eq([]E{&T{}}[0], nil);"), 5 + 3 + 4, 7 + 5 + 4 + 4},
		{"var s []int; s = append(s, 1);", 1 + 4 + 4, 2 + 6 + 4},
		{"s := []int{}; s = append(s, 1);", 2 + 4 + 4, 2 + 6 + 6 + 4},
		{"s := []int{1}; s = append(s, 1);", 3 + 4 + 4, 2 + 7 + 6 + 4},
		{"s := []int{1, 2}; s = append(s, 1);", 4 + 4 + 4, 2 + 8 + 6 + 4},
		{"s := []int{1, 2, 3}; s = append(s, 1);", 5 + 4 + 6, 2 + 9 + 6 + 6},
		{"s := []int{1, 2, 3, 4, 5}; s = append(s, 1);", 7 + 4 + 10, 2 + 11 + 6 + 10},
		{"s := make([]int, 4)[:3]; s = append(s, 1);", 5 + 4 + 4, 2 + 6 + 10 + 6},
		{"s := make([]int, 4)[:3]; s = append(append(s, 1), 2);", 5 + 4 + 6 + 8, 2 + 6 + 10 + 6 + 6 + 8},
		{"put(len(make([]int, 0)));", 2 + 3, 6},
		{"put(len(make([]int, 100)));", 2 + 3 + 100, 106},
		{"put(len(make([]string, 1000000)));", 2 + 3 + 1000000, 1000006},
	})
}

// 13.1, Steps: a package's vars take those of their expressions alone.
func TestStepsOfVars(t *testing.T) {
	checkCounts(t, []counts{
		{"var x int; func main() { }", 0, 0},
		{"var x int = 1; func main() { }", 1, 0},
		{"var x int = 1 + 2; var y int = x; func main() { }", 3 + 1, 0},
		{"var x func() int = func() int { return 1; }; var y int = x(); func main() { }", 1 + 2 + 2, 3},
		{"import a; var x int = a.V + a.C; func main() { }", 3, 0},
	}, other)
	o, cost, _ := eval.Run([]string{"package main; import a; func main() { put(a.W); }", "package a; var W int = F(2); func F(x int) int { y := x; return y; }"}, nil, far)
	if got := counted(o, cost); got != "done \x02, 10 steps, cost 4" {
		t.Error(got)
	}
}

// 13.1, Cost: each kind of what is taken, and variables of all kinds.
func TestCost(t *testing.T) {
	checkCounts(t, []counts{
		{"var x int; y := true; { z := \"\"; }", 1 + 2 + 1 + 2, 6},
		{"i := 0; for i < 3 { x := i; i = i + 1; }", 2 + 1 + 3*(4+2+4) + 4, 2 + 3*2},
		{of("none();"), 3, 0},
		{"func f(a int, b bool) { } func main() { f(1, true); f(2, false); }", 10, 8},
		{"type T struct { } func (t *T) m(x int) { } func main() { var t *T; t.m(1); (*T).m(t, 1); }", 1 + 5 + 5, 2 + (4 + 4) + 4},
		{"type T struct { } func (t *T) m(x int) { } func main() { var t *T; f := t.m; f(1); f(2); }", 1 + 3 + 4 + 4, 2 + (4 + 2) + 4 + 4},
		{"type T struct { } type I interface { m(); } func (t *T) m() { } func main() { var i I = &T{}; i.m(); f := i.m; f(); }", 2 + 4 + 3 + 3, (2 + 2) + (4 + 2) + (4 + 2) + 2},
		{"type T struct { } type I interface { m(); } func (t *T) m() { } func f[A I](x A) { x.m(); } func main() { f(&T{}); }", 4 + 4, 2 + (4 + 2) + (4 + 2)},
		{"type T struct { } func main() { x := &T{}; }", 2, 2 + 2},
		{"type T struct { a int; b int; c int; } func main() { x := &T{}; y := &T{c: 1}; }", 2 + 3, 2*2 + 2*5},
		{"x := []int{}; y := []string{\"\", \"a\", \"b\"};", 2 + 5, 2*2 + 6 + 9},
		{"x := make([]string, 7);", 3 + 7, 2 + 13},
		{"var x []int; y := x[:]; z := make([]int, 0)[0:0];", 1 + 3 + 6, 3*2 + 6 + 6 + 6},
		{"x := \"abcdef\"[2:5]; y := \"\"[:];", 5 + 3, 2*2 + 7 + 4},
		{"func g[A any]() { } func f[A any, B any, C any](x A, y B, z C) { } func main() { f(1, 2, 3); f(1, \"\", true); }", 12, 2 * (12 + 6)},
		{"func f[A any](x A) A { return x; } func main() { f(f(f(1))); }", 1 + 7 + 6, 3 * (4 + 2)},
		{"func f[A any](x A, n int) { if n > 0 { f(x, n - 1); } } func main() { f(true, 3); }", 5 + 3*(4+7) + 4, 4 * (4 + 4)},
		{"for { x := 1; break; }", 2 + 2 + 1, 2},
		{"if false { x := 1; }", 2, 0},
	})
}

// 13.1, Cost: of a function's literal all variables that are known there, of all functions about it.
func TestCostOfLiterals(t *testing.T) {
	checkCounts(t, []counts{
		{"f := func() { };", 2, 2 + 3},
		{"x := 1; f := func() { };", 4, 4 + 4},
		{"x := 1; { x := 2; { x := 3; f := func() { }; } }", 2 + 3 + 3 + 2, 3*2 + 2 + (3 + 3)},
		{"{ x := 1; y := 2; } f := func() { };", 1 + 4 + 2, 4 + 2 + 3},
		{"f := func() { }; x := f;", 4, 4 + 3},
		{"f := func() { }; g := func() { };", 4, 4 + 3 + 4},
		{"func main() { f(1, 2); } func f(a int, b int) { x := 3; g := func() { }; }", 5 + 4, 4 + 2 + 2 + (3 + 3)},
		{"type T struct { } func (t *T) m(a int) { g := func() { }; } func main() { (*T).m(nil, 1); }", 5 + 2, 4 + 2 + 5},
		{"x := 1; f := func(a int, b int) { y := 2; g := func() { }; }; f(1, 2);", 2 + 2 + 5 + 4, 2 + (2 + 4) + 4 + 2 + (2 + 3 + 4)},
		{"i := 0; for i < 2 { i = i + 1; f := func() { }; x := 1; }", 2 + 1 + 2*(4+4+2+2) + 4, 2 + 2*(2+3+1+2)},
		{"var f func() = func() { }; func main() { }", 1, 3},
		{"var f func() func() = func() func() { x := 1; return func() { }; }; func main() { f()(); }", 1 + 4 + 2 + 2, 3 + 2 + 4},
		{"func f[A any](x A) { g := func() { }; } func main() { f(1); }", 4 + 2, 4 + 2 + 2 + 4},
		{"if true { x := 1; f := func() { }; } else { }", 2 + 4, 4 + 4},
		{"x := 1; y := []func(){func() { }, func() { }};", 2 + 4, 2 + 2*4 + 8 + 2},
	})
}

// What is asked, and what is spent, stands ahead of the cost; what was evaluated ahead keeps its own.
func TestCostBehind(t *testing.T) {
	for _, c := range []sample{
		{"x := 1 / 0;", "panic 3, 4 steps, cost 0"},
		{"type T struct { a int; } func main() { x := &T{a: 1 / 0}; }", "panic 3, 5 steps, cost 0"},
		{"x := []int{1, 2 / 0};", "panic 3, 6 steps, cost 0"},
		{"x := append([]int{}, 1 / 0);", "panic 3, 6 steps, cost 6"},
		{"x := make([]int, 0 - 1);", "panic 6, 5 steps, cost 0"},
		{"x := make([]int, 0)[1:];", "panic 5, 5 steps, cost 6"},
		{"x := \"abc\"[4:];", "panic 5, 4 steps, cost 0"},
		{"type T struct { } type I interface { m(); } func (t *T) m() { } func main() { var i I; i.m(); }", "panic 1, 5 steps, cost 2"},
		{"type T struct { } type I interface { m(int); } func (t *T) m(x int) { } func main() { var i I; i.m(1 / 0); }", "panic 1, 5 steps, cost 2"},
		{"var f func(int); f(2);", "panic 1, 5 steps, cost 2"},
		{"func f(x int) { f(x); } func main() { f(1); }", "stack, 1600 steps, cost 798"},
		{"func f[A any](x A) { f(x); } func main() { f(1); }", "stack, 1600 steps, cost 2394"},
	} {
		o, cost, e := eval.Run([]string{whole(c.text)}, nil, far)
		if got := counted(o, cost); e != api.OK || got != c.want {
			t.Errorf("%s\n%d, %s, want %s", c.text, e, got, c.want)
		}
	}
}

// The greatest cost is told as it is.
func TestGreatCost(t *testing.T) {
	text := whole("s := \"" + strings.Repeat("a", 64) + "\"; for len(s) < 1000000 { s = s + s; } for { s[1:]; }")
	text = strings.ReplaceAll(text, "s[1:];", "t := s[:];")
	o, cost, _ := eval.Run([]string{text}, nil, api.MaxFuel)
	if o.Kind != api.RunFuel || o.Steps != api.MaxFuel || cost < 1<<38 {
		t.Error(counted(o, cost))
	}
}
