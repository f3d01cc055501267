package prog_test

import (
	"strconv"
	"strings"
	"testing"

	"mortise/prog"
)

// marked is a text without the @ that stand in it, and the places where these stood.
func marked(s string) (string, []int) {
	parts := strings.Split(s, "@")
	text := parts[0]
	var places []int
	for _, part := range parts[1:] {
		places = append(places, len(text))
		text += part
	}
	return text, places
}

// checkNamed holds what Named tells of texts against names in order: in the texts @ stands ahead of each literal, among the names p@ for the next one of p.
func checkNamed(t *testing.T, want string, marks ...string) {
	t.Helper()
	var texts []string
	places := map[string][]int{}
	for _, s := range marks {
		text, at := marked(s)
		pkg, _, _ := strings.Cut(strings.TrimPrefix(text, "package "), ";")
		texts = append(texts, text)
		places[pkg] = at
	}
	var all []string
	for _, name := range strings.Fields(want) {
		if pkg, is := strings.CutSuffix(name, "@"); is && len(places[pkg]) > 0 {
			name += strconv.Itoa(places[pkg][0])
			places[pkg] = places[pkg][1:]
		}
		all = append(all, name)
	}
	if is := strings.Join(prog.Named(texts), " "); is != strings.Join(all, " ") {
		t.Errorf("12.2: %q: %s, want %s", texts, is, strings.Join(all, " "))
	}
	for pkg, rest := range places {
		if len(rest) > 0 {
			t.Errorf("%q: %d literals of %s are not wanted", texts, len(rest), pkg)
		}
	}
}

// 12.2: functions and methods as the text has them, package by package.
func TestNamed(t *testing.T) {
	checkNamed(t, "main# main.main", "package main; func main() { }")
	checkNamed(t, "main# main.z main.main main.a", "package main; func z() { } func main() { } func a() { }")
	// Nothing else has a name; a package without vars, and one with nothing, begins too.
	checkNamed(t, "a# b# main# main.main", "package main; const c = 1; var v int = 2; type T struct { f func(); } type I interface { m(); } func main() { }", "package b; var x int = 1; var y int;", "package a;")
	checkNamed(t, "main# main.T.m main.main main.U.m main.T.a main.f", "package main; func (t *T) m() { } func main() { } func (t *U) m() { } type U struct { } type T struct { } func (x *T) a() { } func f() { }")
	checkNamed(t, "main# main.T.main main.T.T main.f main.main", "package main; type T struct { } func (t *T) main() { } func (t *T) T() { } func f[A any](x A) A { return x; } func main() { }")
	// By the order, not by the texts or by names.
	checkNamed(t, "z# z.F b# b.F main# main.F main.main", "package main; import b; func F() { } func main() { }", "package b; import z; func F() { }", "package z; func F() { }")
	checkNamed(t, "B# B.f _# _.f a# a.f main# main.main z# z.main", "package z; func main() { }", "package a; func f() { }", "package main; func main() { }", "package B; func f() { }", "package _; func f() { }")
	checkNamed(t, "main# main.abcdefghijklmnop main._ main.x9 main.main", "package main; func abcdefghijklmnop() { } func _() { } func x9() { } func main() { }")
}

// 12.2: functions' literals, by their places, behind all functions and methods.
func TestLiterals(t *testing.T) {
	checkNamed(t, "main# main.main main@", "package main; func main() { f := @func() { }; }")
	checkNamed(t, "main# main.main main.f main@ main@ main@", "package main; var v func() = @func() { }; func main() { @func() { }(); } func f() { x := @func(n int) int { return n; }; }")
	checkNamed(t, "main# main.main main@ main@ main@ main@", "package main; func main() { f := @func() func() func() { return @func() func() { return @func() { }; }; }; f()()(); @func() { }(); }")
	checkNamed(t, "main# main.f main.T.m main.main main@ main@ main@", "package main; type T struct { } func f[A any](x A) A { return @func() A { return x; }(); } func (t *T) m() { @func() { }(); } func main() { f(@func() { }); }")
	// Types of functions are none; nor are methods and functions as values.
	checkNamed(t, "main# main.main main.T.m main@", "package main; var f func(func() int) func() = nil; type T struct { f func(); } type I interface { m(func()) func(); } func main() { var g func(*T) = (*T).m; h := (&T{}).m; k := main; l := []func(){}; m := make([]func(), 1); n := @func(x func()) func() { return x; }; } func (t *T) m() { }")
	// Places are each package's own.
	checkNamed(t, "a# a.F a@ a@ main# main.main main@ main@", "package main; import a; func main() { f := @func() { a.F(); }; f(); @func() { }(); }", "package a; var g func() = @func() { }; func F() { @func() { }(); }")
	checkNamed(t, "b# b@ main# main.main main@", "package main; var xyz func() = @func() { }; func main() { }", "package b; var uvwxyz func() = @func() { };")
}

// 12.2: literals in each kind of statement and of expression.
func TestLiteralsWithin(t *testing.T) {
	const ahead = "package main; type T struct { n int; f func(); } type I interface { } var s []int; func f(g func() int) int { return g(); } func main() { "
	const one = "@func() int { return 1; }"
	for _, s := range []string{
		"var x func() = @func() { };", "x := @func() { };", "s[f(" + one + ")] = " + one + "();", "s[0] = " + one + "();", "@func() { }();", "{ @func() { }(); }",
		"if @func() bool { return true; }() { @func() { }(); } else { @func() { }(); }", "if true { } else if @func() bool { return true; }() { @func() { }(); }",
		"for @func() bool { return true; }() { @func() { }(); }", "for { @func() { }(); }", "x := @func() func() { return @func() { }; }();", "x := ((@func() { }));",
		"put(f(" + one + ") + f(@func() int { @func() { }(); return -f(" + one + "); }));", "put(" + one + "() * (" + one + "() - " + one + "()));", "panic(f(" + one + "));",
		"x := s[f(" + one + ")];", "x := s[f(" + one + "):f(" + one + ")];", "x := s[f(" + one + "):];", "x := s[:f(" + one + ")];", "x := make([]int, f(" + one + "));",
		"x := []func(){@func() { }, nil, @func() { }};", "x := &T{n: f(" + one + "), f: @func() { }};", "x := append([]func(){@func() { }}, @func() { });", "x := len(@func() string { return \"\"; }());",
		"x := @func() I { return nil; }().(*T);", "x := @func() *T { return nil; }().f;", "@func() *T { return nil; }().f();", "x := @func() { } == nil || nil != @func() { };",
	} {
		checkNamed(t, "main# main.f main.main"+strings.Repeat(" main@", strings.Count(s, "@")), ahead+s+" }")
	}
}

// 12.2: of what is no program none.
func TestNotNamed(t *testing.T) {
	for _, texts := range [][]string{
		nil, {}, {""}, {"package main;"}, {bareMain, "package a; x"}, {bareMain, bareMain}, {bareMain, "package a; import b;"}, {bareMain, "package a; import a;"},
		{bareMain, "package a; var x int = true;"}, {bareMain, "package a; var x int = x;"}, {"package a; func main() { }"}, {"package main; func main(x int) { }"},
	} {
		if names := prog.Named(texts); len(names) > 0 {
			t.Errorf("12.2: %q: %q", texts, names)
		}
	}
}
