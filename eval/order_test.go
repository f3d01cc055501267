package eval_test

import (
	"strings"
	"testing"

	"mortise/api"
	"mortise/eval"
)

// loud are functions that write a letter, and answer something.
const loud = "type T struct { a int; b int; n *T; s []int; i I; f func(int, int) int; } type I interface { } func a() int { put(97); return 0; } func b() int { put(98); return 1; } func c() int { put(99); return 2; } func t() *T { put(116); return &T{}; } func no() *T { put(110); return nil; } func s() []int { put(115); return []int{1, 2, 3}; } func two(x int, y int) int { put(50); return 5; } func f() func(int, int) int { put(102); return two; } func yes(x bool) bool { put(121); return x; } "

func checkLoud(t *testing.T, samples []sample) {
	t.Helper()
	for i, c := range samples {
		samples[i].text = loud + "func main() { " + c.text + " }"
	}
	checkTold(t, samples)
}

// 13.1, Order: operands, arguments, elements and keys from left to right; what is called ahead of its arguments.
func TestOrder(t *testing.T) {
	checkLoud(t, []sample{
		{"x := a() + b() * c();", "done abc"},
		{"x := (a() + b()) * c();", "done abc"},
		{"x := a() < b() == yes(true);", "done aby"},
		{"x := s()[b()];", "done sb"},
		{"x := s()[b():c()];", "done sbc"},
		{"x := s()[:c()];", "done sc"},
		{"x := append(s(), c());", "done sc"},
		{"x := []int{c(), a(), b()};", "done cab"},
		{"x := &T{b: b(), a: a()};", "done ba"},
		{"x := &T{n: t(), a: c(), s: s()};", "done tcs"},
		{"two(a(), b());", "done ab2"},
		{"f()(b(), a());", "done fba2"},
		{"x := two(f()(a(), a()), b());", "done faa2b2"},
		{"(&T{f: f(), a: c()}).f(a(), b());", "done fcab2"},
		{"x := make([]int, c());", "done c"},
		{"if a() == 0 { b(); } else { c(); }", "done ab"},
		{"if a() == 1 { b(); } else if b() == 1 { c(); } else { t(); }", "done abc"},
		{"x := 0; for x < b() { x = x + 1; c(); }", "done bcb"},
	})
}

// 13.1, Order: && and || leave out the second one, where the first one says it.
func TestShort(t *testing.T) {
	checkLoud(t, []sample{
		{"if yes(false) && a() == 0 { b(); }", "done y"},
		{"if yes(true) && a() == 0 { b(); }", "done yab"},
		{"if yes(true) && a() == 1 { b(); }", "done ya"},
		{"if yes(true) || a() == 0 { b(); }", "done yb"},
		{"if yes(false) || a() == 0 { b(); }", "done yab"},
		{"if yes(false) || a() == 1 { b(); } else { c(); }", "done yac"},
		{"if yes(false) && 1 / 0 == 1 || yes(true) || no().a == 1 { b(); }", "done yyb"},
	})
}

// 13.1, Order: of an = what stands in the left side, the right side, the left side's checks, the storing.
func TestOrderOfAssigning(t *testing.T) {
	checkLoud(t, []sample{
		{"s()[b()] = c();", "done sbc"},
		{"t().a = b();", "done tb"},
		{"no().a = b();", "panic 1 nb"},
		{"no().a = 1 / 0;", "panic 3 n"},
		{"no().n.a = b();", "panic 1 n"},
		{"t().n.a = b();", "panic 1 tb"},
		{"s()[c() + c()] = b();", "panic 2 sccb"},
		{"s()[c() + c()] = b() / a();", "panic 3 sccba"},
		{"s()[c() / a()] = b();", "panic 3 sca"},
		{"t().s[a()] = c();", "panic 2 tac"},
		{"no().s[a()] = c();", "panic 1 n"},
		{"t().i = no();", "panic 1 tn"},
		{"no().i = no();", "panic 1 nn"},
		{"x := []int{7}; y := x; x[0] = two(b(), b()); put(48 + y[0]);", "done bb25"},
		{"x := &T{a: 1}; y := x; x.a = func() int { x = &T{a: 2}; return 3; }(); put(48 + x.a); put(48 + y.a);", "done 23"},
		{"x := []int{1}; y := x; x[0] = func() int { x = []int{2}; return 3; }(); put(48 + x[0]); put(48 + y[0]);", "done 23"},
		{"x := 1; x = func() int { x = 5; return x + 1; }(); put(48 + x);", "done 6"},
		{"x := []int{1, 2}; i := 0; x[i] = func() int { i = 1; return 9; }(); put(48 + x[0]); put(48 + x[1]);", "done 92"},
		{"x := 1; y := x + func() int { x = 5; return 1; }(); put(48 + y);", "done 2"},
	})
}

// 13.1, Order: of a call what is called, the arguments, nil, room, cost.
func TestOrderOfCalls(t *testing.T) {
	checkLoud(t, []sample{
		{"var g func(int, int) int; g(a(), b());", "panic 1 ab"},
		{"var g func(int, int) int; g(a(), 1 / 0);", "panic 3 a"},
		{"no().f(a(), b());", "panic 1 n"},
		{"t().f(a(), b());", "panic 1 tab"},
		{"g := two; g(a(), func() int { g = nil; return b(); }()); if g == nil { put(65); }", "done ab2A"},
	})
	const deep = "func g() { } func deep(n int) { if n > 0 { deep(n - 1); } else { LAST } } func main() { deep(398); put(65); }"
	for _, c := range []struct{ last, want string }{
		{"g();", "stack"},
		{"put(66);", "done BA"},
		{"var f func(); f();", "panic 1"},
		{"deep(1 / 0);", "panic 3"},
		{"var i J; i.m();", "panic 1"},
		{"x := (&U{}).m; x();", "stack"},
		{"func() { }();", "stack"},
		{"(*U).m(nil);", "stack"},
		{"via(1);", "stack"},
		{"x := func() { }; put(66);", "done BA"},
	} {
		text := "package main; type U struct { } func (u *U) m() { } type J interface { m(); } func via[A any](x A) { } " + replaced(deep, c.last)
		o, _, e := eval.Run([]string{text}, nil, far)
		if got := told(o); e != api.OK || got != c.want {
			t.Errorf("%s: %d, %s, want %s", c.last, e, got, c.want)
		}
	}
}

// A pointer becomes an interface right behind its own expression.
func TestOrderOfBecoming(t *testing.T) {
	checkLoud(t, []sample{
		{"func(x I, y int) { }(no(), a());", "panic 1 n"},
		{"func(y int, x I) { put(65); }(a(), no());", "panic 1 an"},
		{"x := []I{t(), no(), t()};", "panic 1 tn"},
		{"x := &T{i: no(), a: a()};", "panic 1 n"},
		{"x := append([]I{}, no()); a();", "panic 1 n"},
		{"var g func(I, int); g(no(), a());", "panic 1 n"},
		{"[]I{}[a()] = no();", "panic 1 an"},
		{"x := func() I { return no(); }; x(); a();", "panic 1 n"},
	})
}

// The packages begin in their order, and the vars of each in theirs, ahead of main.
func TestOrderOfPackages(t *testing.T) {
	texts := []string{
		"package main; import b; import z; var y int = say(x + 1); var x int = say(b.X + z.X); var w int; func say(n int) int { put(n); return n; } func main() { say(x); say(y); say(w); b.X = 70; say(b.X); say(b.Get()); }",
		"package z; import b; var X int = say(b.X + 1); func say(n int) int { put(n); return n; }",
		"package b; var X int = say(y); var y int = say(65); var z int = x2(); func x2() int { return say(v + 90); } var v int; func say(n int) int { put(n); return n; } func Get() int { return X + 1; }",
	}
	o, _, e := eval.Run(texts, nil, far)
	if got := told(o); e != api.OK || got != "done AAZB\x83\x84\x83\x84\x00FG" {
		t.Errorf("%d, %q", e, got)
	}
	checkFuels(t, texts, "")
}

// Packages that stand behind main in the order begin ahead of its function main, too.
func TestOrderBehindMain(t *testing.T) {
	texts := []string{"package z; import main; var X int = main.F(66);", "package main; var V int; var w int = F(65); func F(n int) int { put(n); V = n; return n; } func main() { put(V); put(67); }"}
	o, _, e := eval.Run(texts, nil, far)
	if got := told(o); e != api.OK || got != "done ABBC" {
		t.Errorf("%d, %s", e, got)
	}
	checkFuels(t, texts, "")
}

// replaced is a text with another one in the place of LAST.
func replaced(s, last string) string { return strings.ReplaceAll(s, "LAST", last) }
