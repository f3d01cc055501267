package prog_test

import (
	"fmt"
	"math"
	"reflect"
	"slices"
	"strings"
	"testing"

	"mortise/api"
	"mortise/check"
	"mortise/export"
	"mortise/inits"
	"mortise/parse"
	"mortise/prog"
)

const bareMain = "package main; func main() { }"

// loaded is what Load tells of texts but for the units, whose packages' names must be those of the texts.
func loaded(t *testing.T, texts []string) string {
	t.Helper()
	order, us, at, e := prog.Load(texts)
	if e != api.OK {
		if len(order) > 0 || len(us) > 0 {
			t.Errorf("12.1: %q: beside error %d: %v, %v", texts, e, order, us)
		}
		if names := prog.Named(texts); len(names) > 0 {
			t.Errorf("12.2: %q: of what is no program: %q", texts, names)
		}
		return fmt.Sprintf("error %d in %d", e, at)
	}
	if at != 0 || len(us) != len(order) {
		t.Errorf("12.1: %q: %d, %d units of %d texts", texts, at, len(us), len(order))
	}
	for k, i := range order {
		if n, _, _ := parse.Parse(texts[i]); n.Text != us[k].Pkg {
			t.Errorf("12.1: %q: unit %d is that of %q", texts, k, us[k].Pkg)
		}
	}
	return fmt.Sprint(order)
}

// told is what is wanted of texts.
type told struct {
	want  string
	texts []string
}

func checkTold(t *testing.T, cases []told) {
	t.Helper()
	for _, c := range cases {
		if is := loaded(t, c.texts); is != c.want {
			t.Errorf("12.1: %q: %s, want %s", c.texts, is, c.want)
		}
	}
}

// inError is how loaded tells an error in a text.
func inError(e api.Errno, at int) string { return fmt.Sprintf("error %d in %d", e, at) }

// 12.1, 12.2: the chapter's examples.
func TestExamples(t *testing.T) {
	order, us, at, e := prog.Load([]string{bareMain})
	if !slices.Equal(order, []int{0}) || len(us) != 1 || us[0].Pkg != "main" || at != 0 || e != api.OK {
		t.Error(order, us, at, e)
	}
	if names := prog.Named([]string{bareMain}); !slices.Equal(names, []string{"main#", "main.main"}) {
		t.Error(names)
	}
	for _, none := range [][]string{nil, {}} {
		order, us, at, e = prog.Load(none)
		if len(order) > 0 || len(us) > 0 || at != 0 || e != api.ErrName {
			t.Error(order, us, at, e)
		}
		if names := prog.Named(none); len(names) > 0 {
			t.Error(names)
		}
	}
}

// 12.1: the texts' numbers in layer 9's Order.
func TestOrder(t *testing.T) {
	checkTold(t, []told{
		{"[1 0]", []string{bareMain, "package a;"}},
		{"[0 1]", []string{bareMain, "package z;"}},
		{"[2 0 1]", []string{"package b;", bareMain, "package a;"}},
		// One that is imported comes first, whatever its name.
		{"[1 0]", []string{"package main; import z; func main() { }", "package z;"}},
		{"[1 2 0]", []string{"package main; import b; import a; func main() { }", "package b;", "package a; import b;"}},
		{"[2 1 0]", []string{"package main; import b; import a; func main() { }", "package b; import a;", "package a;"}},
		{"[1 2 0 3]", []string{"package c; import b; import a;", "package a;", "package b;", "package main; import c; func main() { }"}},
		// Package main need not be the last one, nor import the others; it may be imported.
		{"[0 1]", []string{bareMain, "package a; import main;"}},
		{"[0 2 1]", []string{bareMain, "package z; import main;", "package x;"}},
		// Great letters stand ahead of _, and that ahead of small ones.
		{"[3 1 0 4 2]", []string{"package a;", "package _;", bareMain, "package B;", "package a0;"}},
	})
}

// unitAlone is a text's unit, as layer 10 tells it among other units.
func unitAlone(t *testing.T, text string, us []api.Unit) api.Unit {
	t.Helper()
	n, at, e := parse.Parse(text)
	if e != api.OK {
		t.Fatalf("%q: %d at %d", text, e, at)
	}
	u, _, at, e := check.Check(n, us)
	if e != api.OK {
		t.Fatalf("%q: %d at %d", text, e, at)
	}
	return u
}

// 12.1: units, in the order, with what they import.
func TestUnits(t *testing.T) {
	texts := []string{
		"package main; import c; import a; var x *a.T = c.F(); func main() { put(c.F().B.N + a.C); }",
		"package b; type U struct { N int; } func (u *U) M() int { return u.N; }",
		"package a; import b; const C = 5; type T struct { B *b.U; } type I interface { M() int; } func G[A I](x A) A { return x; }",
		"package c; import a; func F() *a.T { return &a.T{B: nil}; }",
	}
	order, us, at, e := prog.Load(texts)
	if !slices.Equal(order, []int{1, 2, 3, 0}) || len(us) != 4 || at != 0 || e != api.OK {
		t.Fatal(order, us, at, e)
	}
	for k, i := range order {
		if want := unitAlone(t, texts[i], us[:k]); !same(us[k], want) {
			t.Errorf("unit %d: %v, want %v", k, us[k], want)
		}
		for _, imported := range us[k].Imports {
			at := slices.IndexFunc(us, func(u api.Unit) bool { return u.Pkg == imported.Name })
			if at >= k || imported.Hash != export.Hash(us[at]) {
				t.Errorf("unit %d: import %s", k, imported.Name)
			}
		}
	}
	if len(us[3].Imports) != 2 || us[3].Imports[0].Name != "c" || len(us[0].Decls) != 2 || len(us[1].Decls) != 4 {
		t.Error(us)
	}
}

// 12.1: what is not imported can be reached by what is, though not be named.
func TestThroughOthers(t *testing.T) {
	a := "package a; type T struct { N int; n int; } func (t *T) M() *T { return t; } func (t *T) m() { } type I interface { M() *T; }"
	b := "package b; import a; var V *a.T; func F(x a.I) a.I { return x; } func G[A a.I](x A) A { return x; }"
	main := func(body string) []string {
		return []string{"package main; import b; func main() { " + body + " }", b, a}
	}
	for _, body := range []string{"b.V.N = b.V.M().N;", "b.F(b.V).M().M();", "x := b.V; x = b.G(x); x.N = 1;", "b.F(b.V); b.F(nil);", "b.V = b.F(b.V).M();", "f := b.V.M; f();", "x := b.G(b.F(b.V)); x = b.V;"} {
		checkTold(t, []told{{"[2 1 0]", main(body)}})
	}
	for _, body := range []string{"b.V.n = 1;", "b.V.m();", "b.V.none = 1;", "var x *a.T;", "x := &a.T{};", "x := (*a.T).M;", "a.none();"} {
		checkTold(t, []told{{inError(api.ErrName, 0), main(body)}})
	}
	checkTold(t, []told{{inError(api.ErrType, 0), main("b.V = 1;")}, {inError(api.ErrType, 0), main("b.F(&T{}); } type T struct { } func f() {")}})
}

// 12.1: each of the errors, alone.
func TestErrors(t *testing.T) {
	deep := "package a; var x int = " + strings.Repeat("(", api.MaxDeep+1) + "1" + strings.Repeat(")", api.MaxDeep+1) + ";"
	var eight []string
	for i := range api.MaxPackages - 1 {
		eight = append(eight, "package a"+string(rune('0'+i))+";")
	}
	eight = append(eight, bareMain)
	checkTold(t, []told{
		// Layer 5's.
		{inError(api.ErrText, 0), []string{""}},
		{inError(api.ErrText, 1), []string{bareMain, ""}},
		{inError(api.ErrText, 1), []string{bareMain, "package a; x", "package b; y"}},
		{inError(api.ErrText, 1), []string{bareMain, "package a; \xff"}},
		{inError(api.ErrText, 1), []string{bareMain, "package a; var x int = \"", "package b;"}},
		{inError(api.ErrLong, 2), []string{bareMain, "package a;", "package b;" + strings.Repeat(" ", api.MaxText)}},
		{inError(api.ErrDeep, 1), []string{bareMain, deep}},
		{inError(api.ErrLong, 1), []string{bareMain, "package a; func f() {" + strings.Repeat("{}", api.MaxNodes) + "}"}},
		// Layer 9's.
		{"[0 1 2 3 4 5 6 7]", eight},
		{inError(api.ErrLimit, 0), append(slices.Clone(eight), "package b;")},
		{inError(api.ErrTwice, 1), []string{bareMain, bareMain}},
		{inError(api.ErrTwice, 3), []string{"package b;", "package a;", bareMain, "package a;", "package b;"}},
		{inError(api.ErrName, 0), []string{"package main; import x; func main() { }"}},
		{inError(api.ErrName, 1), []string{bareMain, "package b; import x;", "package a; import x;"}},
		{inError(api.ErrCycle, 1), []string{bareMain, "package a; import b;", "package b; import a;"}},
		{inError(api.ErrCycle, 0), []string{"package main; import main; func main() { }"}},
		{inError(api.ErrCycle, 1), []string{"package c;", "package main; import a; func main() { }", "package a; import b;", "package b; import a;"}},
		// Layer 10's.
		{inError(api.ErrName, 1), []string{bareMain, "package a; var x int = y;"}},
		{inError(api.ErrType, 1), []string{bareMain, "package a; func f() { 1; }"}},
		{inError(api.ErrTwice, 1), []string{bareMain, "package a; var x int; var x int;"}},
		{inError(api.ErrTwice, 0), []string{"package main; import a; import a; func main() { }", "package a;"}},
		{inError(api.ErrName, 0), []string{"package main; import a; func main() { a.f(); }", "package a; func f() { }"}},
		{inError(api.ErrType, 0), []string{"package main; import a; func main() { a.F(1); }", "package a; func F() { }"}},
		// Layer 11's.
		{inError(api.ErrCycle, 1), []string{bareMain, "package a; var x int = x;"}},
		{inError(api.ErrCycle, 0), []string{"package main; var y int = f(); func f() int { return y; } func main() { }"}},
		{"[0]", []string{"package main; var y int = f(); func f() int { return z; } var z int = 1; func main() { put(y); }"}},
	})
}

// 12.1, T3: a text that layer 6 would write too long is layer 10's ErrForm.
func TestWrittenLong(t *testing.T) {
	text := func(blocks int) string {
		return "package main; func main() {" + strings.Repeat("{}", blocks) + "}"
	}
	// Each block is four bytes, with blanks about its brackets; about them all stands the rest.
	rest := len("package main ; func main ( ) { }")
	most := (api.MaxText - rest) / 4
	checkTold(t, []told{{"[0]", []string{text(most)}}, {inError(api.ErrForm, 0), []string{text(most + 1)}}, {inError(api.ErrForm, 1), []string{bareMain, strings.Replace(text(most+2), "main", "abcd", 2)}}})
}

// 12.1: the first error counts.
func TestFirstError(t *testing.T) {
	var nine []string
	for i := range api.MaxPackages + 1 {
		nine = append(nine, "package a"+string(rune('0'+i))+"; import none; import a0; var x int = x + y;")
	}
	checkTold(t, []told{
		// Layer 5's ahead of Order's, by the texts' numbers.
		{inError(api.ErrText, 0), make([]string, api.MaxPackages+1)},
		{inError(api.ErrText, 9), append(slices.Clone(nine), "package")},
		{inError(api.ErrText, 2), []string{"package b; import none;", "package b;", "package a"}},
		{inError(api.ErrText, 1), []string{"package c;", "package b; x", "package a; x"}},
		{inError(api.ErrText, 1), []string{"package a; var x int = y;", "package b; x"}},
		// Order's among themselves.
		{inError(api.ErrLimit, 0), nine},
		{inError(api.ErrLimit, 0), slices.Repeat([]string{"package a;"}, api.MaxPackages+1)},
		{inError(api.ErrTwice, 2), []string{"package a; import none;", "package b; import b;", "package a;"}},
		{inError(api.ErrName, 2), []string{"package a; import b;", "package b; import a;", "package c; import none;"}},
		// Order's ahead of layer 10's.
		{inError(api.ErrCycle, 1), []string{"package a; var x int = y;", "package b; import b; var x int = y;"}},
		{inError(api.ErrTwice, 1), []string{"package a; var x int = true;", "package a;"}},
		{inError(api.ErrName, 0), []string{"package b; import none; var x int = true;", "package a; var x int = true;"}},
		{inError(api.ErrCycle, 0), []string{"package a; import a; import a;"}},
		// Layer 10's and layer 11's text by text, in the order, not by numbers.
		{inError(api.ErrName, 1), []string{"package b; var x int = true;", "package a; var x int = y;"}},
		{inError(api.ErrCycle, 1), []string{"package b; var x int = true;", "package a; var x int = x;"}},
		{inError(api.ErrType, 1), []string{"package b; var x int = x;", "package a; var x int = true;"}},
		{inError(api.ErrCycle, 0), []string{"package b; var x int = x;", "package a; import b; var x int = true;"}},
		{inError(api.ErrType, 0), []string{"package b; var x int = true;", "package a; import b; var x int = x;"}},
		// Of one text layer 10's ahead of layer 11's.
		{inError(api.ErrType, 0), []string{"package a; var x int = x; var y int = true;"}},
		{inError(api.ErrType, 0), []string{"package a; var y int = true; var x int = x;"}},
		// All ahead of that there is no main.
		{inError(api.ErrType, 2), []string{"package a;", "package b;", "package c; var x int = true;"}},
		{inError(api.ErrCycle, 2), []string{"package a;", "package b;", "package c; var x int = x;"}},
		{inError(api.ErrType, 1), []string{"package main;", "package z; var x int = true;"}},
		{inError(api.ErrName, 3), []string{"package a;", "package b;", "package c;"}},
	})
}

// 12.1: a package main with a function main that has nothing else.
func TestMain(t *testing.T) {
	for _, text := range []string{
		"package main; func main() { }", "package main; func main() { main(); }", "package main; func f() { } var x int; func main() { f(); } func g() { }",
		"package main; type T struct { } func (t *T) main(x int) int { return x; } func main() { }", "package main; type T struct { main int; } func main() { main := 1; put(main); }",
		"package main; func main() { panic(1); }", "package main; func main() { return; } const c = 1;", "package main; func main() { f := func() int { return 1; }; put(f()); }",
	} {
		checkTold(t, []told{{"[0]", []string{text}}})
	}
	for _, text := range []string{
		"package main;", "package main; func Main() { }", "package main; func f() { }", "package a; func main() { }", "package Main; func main() { }", "package main_; func main() { }",
		"package main; func main(x int) { }", "package main; func main() int { return 1; }", "package main; func main[A any]() { }", "package main; func main[A any](x A) A { return x; }",
		"package main; func main(x int) int { return x; }", "package main; var main int;", "package main; var main func() = func() { };", "package main; const main = 1;", "package main; type main struct { }",
		"package main; type main interface { }", "package main; type T struct { } func (t *T) main() { }", "package main; type T struct { main func(); }", "package main; type I interface { main(); }",
	} {
		checkTold(t, []told{{inError(api.ErrName, 1), []string{text}}, {inError(api.ErrName, 2), []string{text, "package b; func main() { }"}}})
	}
	checkTold(t, []told{{"[1 0]", []string{bareMain, "package a; func main() int { return 1; }"}}, {inError(api.ErrName, 2), []string{"package main;", "package a; type main struct { } func (m *main) main() { }"}}})
}

// R1, R6: lists and texts of any length.
func TestMany(t *testing.T) {
	many := slices.Repeat([]string{"package a; import a; var x int = true;"}, 100000)
	checkTold(t, []told{{inError(api.ErrLimit, 0), many}})
	many[99999] = "package"
	checkTold(t, []told{{inError(api.ErrText, 99999), many}})
	checkTold(t, []told{{inError(api.ErrLong, 1), []string{bareMain, strings.Repeat("package a;", 1<<22)}}, {inError(api.ErrText, 0), make([]string, 1<<20)}})
}

// R1: what begins as a program, and is cut short or has a byte turned.
func TestSpoiled(t *testing.T) {
	text := "package main; import a; var f func() int = func() int { return a.V + len(\"a\\n\"); }; type T struct { n int; } func (t *T) m(x []int) { t.n = x[0:][1]; } func main() { put(f() % 2); (&T{n: -1}).m(nil); }"
	other := "package a; var V int = 1;"
	checkTold(t, []told{{"[1 0]", []string{text, other}}})
	ends := map[api.Errno]int{}
	count := func(s string) {
		loaded(t, []string{s, other})
		_, _, at, e := prog.Load([]string{s, other})
		if e != api.OK && at != 0 && !(at == 2 && e == api.ErrName) || e < 0 || e > math.MaxInt8 {
			t.Errorf("%q: %d in %d", s, e, at)
		}
		ends[e]++
	}
	for i := range text {
		count(text[:i])
		count(text[i:])
		for _, b := range "x 0;\"{}()\x00\xff" {
			count(text[:i] + string(b) + text[i+1:])
		}
	}
	if ends[api.OK] < 40 || ends[api.ErrText] < 1000 || ends[api.ErrName] < 100 {
		t.Errorf("how they ended: %v", ends)
	}
}

// same tells whether two things are one, if nil and empty lists are.
func same(a, b any) bool {
	return reflect.DeepEqual(copyOf(reflect.ValueOf(a)).Interface(), copyOf(reflect.ValueOf(b)).Interface())
}

// copyOf is a thing in memory of its own, of which no list is empty.
func copyOf(v reflect.Value) reflect.Value {
	made := reflect.New(v.Type()).Elem()
	switch {
	case v.Kind() == reflect.Slice && v.Len() > 0:
		made.Set(reflect.MakeSlice(v.Type(), v.Len(), v.Len()))
		for i := range v.Len() {
			made.Index(i).Set(copyOf(v.Index(i)))
		}
	case v.Kind() == reflect.Slice:
	case v.Kind() == reflect.Struct:
		for i := range v.NumField() {
			made.Field(i).Set(copyOf(v.Field(i)))
		}
	default:
		made.Set(v)
	}
	return made
}

// Packs are what Load tells, with the trees and with what layers 10 and 11 tell of them.
func TestPacks(t *testing.T) {
	right := 0
	for round := range 60 {
		m := &maker{state: uint64(round) + 1<<25}
		m.make()
		texts := m.texts()
		order, us, _, want := prog.Load(texts)
		packs, e := prog.Packs(texts)
		if e != want || len(packs) != len(us) {
			t.Fatalf("%q: %d, %d packages; Load tells %d, %d", texts, e, len(packs), want, len(us))
		}
		for i, p := range packs {
			tree, _, _ := parse.Parse(texts[order[i]])
			u, facts, _, _ := check.Facts(tree, us[:i])
			vars, _, _ := inits.Order(tree, us[:i])
			if !same(p.Tree, tree) || !same(p.Unit, u) || !same(u, us[i]) || !same(p.Facts, facts) || !slices.Equal(p.Vars, vars) {
				t.Fatalf("%q: package %d is %v", texts, i, p)
			}
			right++
		}
	}
	if right < 60 {
		t.Error("few packages:", right)
	}
}

// Alone is a package with the units of others, or the first error of layers 5, 10 and 11.
func TestAlone(t *testing.T) {
	us := []api.Unit{{Pkg: "a", Decls: []api.Decl{{Kind: api.DConst, Name: "C", Value: 1}}}}
	for _, c := range []struct {
		text string
		err  api.Errno
	}{
		{"package p; import a; var x int = y + a.C; var y int = 2;", api.OK}, {"package a; func f() { }", api.OK}, {bareMain, api.OK},
		{"package p; import a; var x int = y + a.C; var y int = 2", api.ErrText}, {"package p; import b;", api.ErrName}, {"package p; import a; var x bool = a.C;", api.ErrType}, {"package p; var x int = x;", api.ErrCycle}, {"package p; var x int = x; var y int = true;", api.ErrType}, {"package p; import b; 5", api.ErrText},
	} {
		made, e := prog.Alone(c.text, us)
		var want prog.Pack
		if c.err == api.OK {
			want.Tree, _, _ = parse.Parse(c.text)
			want.Unit, want.Facts, _, _ = check.Facts(want.Tree, us)
			want.Vars, _, _ = inits.Order(want.Tree, us)
		}
		if e != c.err || !same(made, want) {
			t.Errorf("%q: %d, %v", c.text, e, made)
		}
	}
}
