package check_test

import (
	"runtime"
	"strings"
	"testing"

	"mortise/api"
	"mortise/check"
	"mortise/kinds"
)

// checkFacts holds the facts of a tree against what Check tells of it.
func checkFacts(t *testing.T, n api.Node, us []api.Unit) {
	t.Helper()
	u, notes, at, e := check.Check(n, us)
	for i, note := range notes {
		notes[i].Type = api.Type{Kind: note.Type.Kind, Pkg: note.Type.Pkg, Name: note.Type.Name}
	}
	unit, facts, place, err := check.Facts(n, us)
	var brief []api.Note
	for _, f := range facts {
		brief = append(brief, api.Note{At: f.At, Type: f.Type})
	}
	if place != at || err != e || !same(unit, u) || !same(brief, notes) {
		t.Fatalf("%v: %d at %d, %v, %v; Check tells %d at %d, %v, %v", n, err, place, unit, brief, e, at, u, notes)
	}
	for _, f := range facts {
		if f.Wanted.Kind != api.TNone && !mayBe(f.Type, f.Wanted) {
			t.Fatalf("%v: at %d %v does not fit %v", n, f.At, f.Type, f.Wanted)
		}
	}
}

// mayBe tells whether something of a type may fit another one, as far as their kinds say.
func mayBe(from, to api.Type) bool {
	if from.Kind == api.TNil {
		return to.Kind == api.TPtr || to.Kind == api.TSlice || to.Kind == api.TFunc || to.Kind == api.TIface
	}
	becomes := to.Kind == api.TIface && (from.Kind == api.TPtr || from.Kind == api.TIface || from.Kind == api.TVar)
	return becomes || from.Kind == to.Kind && from.Pkg == to.Pkg && from.Name == to.Name
}

// Facts are Check's notes but for what types are made of, with more beside.
func TestFactsAsNotes(t *testing.T) {
	us := units(t)
	ends := map[bool]int{}
	for round := range 300 {
		n := tree(t, madeText(us, 8000+round))
		if round%3 > 0 {
			m := &maker{state: uint64(round)}
			m.turn(&n)
		}
		checkFacts(t, n, us)
		_, _, _, e := check.Facts(n, us)
		ends[e == api.OK]++
	}
	if ends[true] < 90 || ends[false] < 90 {
		t.Errorf("how they ended: %v", ends)
	}
	for _, s := range uses() {
		checkFacts(t, tree(t, s), us)
	}
	checkFacts(t, api.Node{Kind: api.NFile, Text: "a", At: 5, N: 1}, us)
}

// What an expression must fit, and what stands in the place of type variables.
func TestFacts(t *testing.T) {
	us := units(t)
	const head = "package a; import q; type T struct { a int; b I; } type I interface { } func f(x I, y int) I { return x; } func g[A any, B comparable](x []A, y B, z A) A { return z; } func h(x *T, i I) { "
	for _, c := range []struct{ text, want string }{
		{"var p *T = x;", "*a.T of x"},
		{"var p I = x;", "a.I of x"},
		{"p := x;", ""},
		{"i = x; x.b = x; x.a = 1;", "a.I of x, a.I of x, int of 1"},
		{"[]int{}[0] = 1;", "int of 1"},
		{"l := []I{x, i};", "a.I of x, a.I of i"},
		{"l := append([]I{}, x);", "a.I of x"},
		{"l := make([]I, 3);", ""},
		{"p := &T{b: x, a: 2};", "a.I of x, int of 2"},
		{"f(x, 3);", "a.I of x, int of 3"},
		{"l := []func(I){}; l[0](x);", "a.I of x"},
		{"k := func(n int) I { return x; };", "a.I of x"},
		{"if x == i { put(4); } k := !true;", ""},
		{"g([]I{}, 1, x);", "A is a.I, B is int, [] of [, int of 1, a.I of x"},
		{"g([]*q.T{}, \"\", nil);", "A is *q.T, B is string, [] of [, string of \", *q.T of n"},
		{"q.G(x); q.G(\"\");", "A is *a.T, *a.T of x, A is string, string of \""},
	} {
		text := head + c.text + " }"
		_, facts, _, e := check.Facts(tree(t, text), us)
		if e != api.OK {
			t.Fatalf("%s: %d", c.text, e)
		}
		if told := tellFacts(text, len(head), facts); told != c.want {
			t.Errorf("%s: %s, want %s", c.text, told, c.want)
		}
	}
}

// tellFacts is what facts from a place of a text on say beside types.
func tellFacts(text string, from int, facts []check.Fact) string {
	var told []string
	for _, f := range facts {
		if f.At < from {
			continue
		}
		if f.Wanted.Kind != api.TNone {
			told = append(told, kinds.Text(f.Wanted)+" of "+text[f.At:f.At+1])
		}
		for i, filled := range f.Filled {
			told = append(told, string(rune('A'+i))+" is "+kinds.Text(filled))
		}
	}
	return strings.Join(told, ", ")
}

// Within functions with type variables facts name these.
func TestFactsOfVars(t *testing.T) {
	text := "package a; type I interface { m(); } func f[A any, B I](x A, y B, z I) { f(y, y, y); f(x, z, z); f(1, y, nil); }"
	_, facts, _, e := check.Facts(tree(t, text), nil)
	if told := tellFacts(text, strings.Index(text, "f(y"), facts); e != api.OK || told != "A is B, B is B, B of y, B of y, a.I of y, A is A, B is a.I, A of x, a.I of z, a.I of z, A is int, B is B, int of 1, B of y, a.I of n" {
		t.Errorf("%d, %s", e, told)
	}
}

// Facts take little memory, where types are much longer than the text in which they come up.
func TestFactsOfLongTypes(t *testing.T) {
	row := "func(" + strings.TrimSuffix(strings.Repeat("T,", api.MaxList), ",") + ")"
	long := "func(" + strings.TrimSuffix(strings.Repeat(row+",", api.MaxList), ",") + ")"
	n := tree(t, "package a; func f[T any](x T) "+long+" { return nil; } func g(x "+sized(200)+") { "+strings.Repeat("f(x); ", 300)+"}")
	var ahead, behind runtime.MemStats
	runtime.ReadMemStats(&ahead)
	_, facts, _, e := check.Facts(n, nil)
	runtime.ReadMemStats(&behind)
	if taken := behind.TotalAlloc - ahead.TotalAlloc; e != api.OK || len(facts) != 900+1 || taken > 1<<26 {
		t.Errorf("%d, %d facts, %d bytes of memory", e, len(facts), taken)
	}
}
