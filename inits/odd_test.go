package inits_test

import (
	"math"
	"reflect"
	"slices"
	"testing"

	"mortise/api"
	"mortise/check"
	"mortise/inits"
)

// checkRefused wants of a tree layer 10's place and error, and that nothing of it needs anything.
func checkRefused(t *testing.T, n api.Node, us []api.Unit) api.Errno {
	t.Helper()
	_, _, place, want := check.Check(n, us)
	order, at, e := inits.Order(n, us)
	if len(order) > 0 || at != place || e != want || want == api.OK {
		t.Errorf("11.2: %v, %d at %d, want %d at %d", order, e, at, want, place)
	}
	for _, i := range []int{0, 1, 2} {
		if needs := inits.Needs(n, us, i); len(needs) > 0 {
			t.Errorf("11.1: beside error %d: %v", e, needs)
		}
	}
	return e
}

// 11.1, 11.2: what layer 10 refuses, ahead of rings.
func TestRefused(t *testing.T) {
	us := unitsOf(t, textOfQ)
	for _, c := range []struct {
		text string
		want api.Errno
	}{
		{"var a int = b; var b int = true;", api.ErrType},
		{"var a int = b; var b bool;", api.ErrType},
		{"var a int = b;", api.ErrName},
		{"var a int = a; var b int = none;", api.ErrName},
		{"var a int = a; var a int;", api.ErrTwice},
		{"var a int = b; var b int = a; func f() int { }", api.ErrType},
		{"var a int = f(); func f() int { return a; } func f() { }", api.ErrTwice},
		{"import r; var a int = a;", api.ErrName},
		{"import a; var b int = b;", api.ErrName},
		{"import q; import q; var b int = b;", api.ErrTwice},
		{"import q; var b int = q.none;", api.ErrName},
		{"var a int = a; type T struct { n int; n int; }", api.ErrTwice},
		{"type T struct { } var t *T = &T{}; var a int = t.m();", api.ErrName},
	} {
		if e := checkRefused(t, treeOf(t, "package a; "+c.text), us); e != c.want {
			t.Errorf("%s: %d, want %d", c.text, e, c.want)
		}
	}
}

// 11.1, 11.2: trees that are none of a text.
func TestNoText(t *testing.T) {
	ring := make([]api.Node, 2)
	ring[0] = api.Node{Kind: api.NVar, Text: "x", Kids: ring}
	ring[1] = api.Node{Kind: api.NBlock, Kids: ring}
	v := api.Node{Kind: api.NVar, Text: "x", At: 7, Kids: []api.Node{{Kind: api.NTypeName, Text: "int"}}}
	deep := api.Node{Kind: api.NInt, N: 1}
	for range api.MaxDepth {
		deep = api.Node{Kind: api.NUnary, Op: api.Neg, Kids: []api.Node{deep}}
	}
	tooDeep := v
	tooDeep.Kids = []api.Node{v.Kids[0], deep}
	file := func(kids ...api.Node) api.Node { return api.Node{Kind: api.NFile, Text: "a", At: 5, Kids: kids} }
	for _, n := range []api.Node{
		{}, {Kind: -1}, {Kind: math.MaxInt, At: math.MinInt}, v, {Kind: api.NFile, At: 3},
		file(api.Node{Kind: api.NVar, Text: "x"}), file(api.Node{Kind: api.NMethod, Text: "m"}), file(api.Node{Kind: api.NFunc, Text: "f", N: 9}),
		file(api.Node{Kind: api.NVar, Text: "var", Kids: v.Kids}), file(v, api.Node{Kind: api.NImport, Text: "q"}), file(tooDeep),
		file(slices.Repeat([]api.Node{v}, api.MaxNodes)...), file(ring...),
	} {
		if e := checkRefused(t, n, nil); e != api.ErrForm {
			t.Errorf("a tree of kind %d: %d", n.Kind, e)
		}
	}
}

// 11.1: numbers of vars that there are not.
func TestNumbers(t *testing.T) {
	n := treeOf(t, "package a; var a int = b; const c = 1; func f() int { return b; } var b int = 1;")
	for _, at := range []int{-1, 2, 3, math.MaxInt, math.MinInt} {
		if needs := inits.Needs(n, nil, at); len(needs) > 0 {
			t.Errorf("of var %d: %v", at, needs)
		}
	}
	if needs := inits.Needs(treeOf(t, "package a; func f() { }"), nil, 0); len(needs) > 0 {
		t.Error("of no var:", needs)
	}
}

// placed is a tree whose nodes, numbered ahead of their kids, have the places that a function tells.
func placed(n api.Node, place func(int) int) api.Node {
	next := 0
	var turn func(api.Node) api.Node
	turn = func(n api.Node) api.Node {
		n.At = place(next)
		next++
		n.Kids = slices.Clone(n.Kids)
		for i, kid := range n.Kids {
			n.Kids[i] = turn(kid)
		}
		return n
	}
	return turn(n)
}

// placings are ways to give places: all alike, falling, mixed, and with few and with great numbers.
func placings() []func(int) int {
	return []func(int) int{
		func(int) int { return 0 },
		func(int) int { return -5 },
		func(i int) int { return 2000 - i },
		func(i int) int { return i * 7919 % 1009 },
		func(i int) int { return i % 3 },
		func(i int) int { return math.MaxInt - i },
		func(i int) int { return math.MinInt + i*7919%1009 },
	}
}

// 11.1, 11.2: places say nothing but where a ring is.
func TestPlaces(t *testing.T) {
	const decls = "type T struct { n int; } type U struct { n int; } func (t *T) m() int { return a; } func (t *U) m() int { return c; } " +
		"func f() int { t := &T{}; u := &U{}; put(u.n); put(t.n); return u.m(); } func g(t *T, u *U) int { return u.n + t.m() + u.n; }"
	n := treeOf(t, "package a; var a int = f(); var b int = g(nil, nil); var c int = 1; var d int; "+decls)
	wrong := treeOf(t, "package a; var a int = f(); var b int = g(nil, nil); var c int = b; var d int; "+decls)
	for i, place := range placings() {
		n, wrong := placed(n, place), placed(wrong, place)
		if is := needed(n, nil); is != "a: c; b: a c" {
			t.Errorf("11.1: placed by %d: %s", i, is)
		}
		order, at, e := inits.Order(n, nil)
		if namesOf(n, order) != "c a b" || at != 0 || e != api.OK {
			t.Errorf("11.2: placed by %d: %v, %d at %d", i, order, e, at)
		}
		order, at, e = inits.Order(wrong, nil)
		if len(order) > 0 || at != varsOf(wrong)[0].At || e != api.ErrCycle {
			t.Errorf("11.2: a ring, placed by %d: %v, %d at %d", i, order, e, at)
		}
	}
}

// 11.1: units that speak of this package: what they say of it does not count, but for types that lead to its structs.
func TestUnits(t *testing.T) {
	own := api.Type{Kind: api.TPtr, Pkg: "a", Name: "T"}
	q := api.Unit{Pkg: "q", Decls: []api.Decl{
		{Kind: api.DVar, Name: "V", Type: own},
		{Kind: api.DVar, Name: "Q", Type: api.Type{Kind: api.TPtr, Pkg: "q", Name: "T"}},
		{Kind: api.DStruct, Name: "T"},
		{Kind: api.DMethod, Name: "M", Of: "T", Type: api.Type{Kind: api.TFunc, Res: []api.Type{{Kind: api.TInt}}}},
	}}
	a := api.Unit{Pkg: "a", Decls: []api.Decl{{Kind: api.DVar, Name: "c", Type: api.Type{Kind: api.TBool}}}}
	later := api.Unit{Pkg: "q", Decls: []api.Decl{{Kind: api.DVar, Name: "V", Type: api.Type{Kind: api.TPtr, Pkg: "q", Name: "T"}}}}
	const decls = " type T struct { } func (t *T) M() int { return c; } var c int = 1;"
	for _, c := range []struct{ text, needs, order string }{
		{"package a; import q; var b int = q.V.M();" + decls, "b: c", "c b"},
		{"package a; import q; var b int = q.Q.M();" + decls, "", "b c"},
	} {
		n := treeOf(t, c.text)
		for _, us := range [][]api.Unit{{q, a, later}, {a, q, later, {}}} {
			if is := needed(n, us); is != c.needs {
				t.Errorf("11.1: %s: %s", c.text, is)
			}
			if is := ordered(t, n, us); is != c.order {
				t.Errorf("11.2: %s: %s", c.text, is)
			}
		}
	}
}

// roomy is a tree with spare room behind its lists, in which nodes stand that are no kids.
func roomy(n api.Node) api.Node {
	kids := make([]api.Node, 0, len(n.Kids)+2)
	for _, kid := range n.Kids {
		kids = append(kids, roomy(kid))
	}
	spare := api.Node{Kind: api.NVar, Text: "spare", At: -1}
	_ = append(kids, spare, spare)
	n.Kids = kids
	return n
}

// spared tells whether the spare room behind a roomy tree's lists is as it was.
func spared(n api.Node) bool {
	for i, kid := range n.Kids[:cap(n.Kids)] {
		if i >= len(n.Kids) && (kid.Text != "spare" || kid.At != -1) || i < len(n.Kids) && !spared(kid) {
			return false
		}
	}
	return true
}

// R3: what is handed in is not changed; what is answered is new.
func TestMemory(t *testing.T) {
	us := unitsOf(t, textOfQ)
	was := unitsOf(t, textOfQ)
	text := "package a; import q; var a int = f(q.P) + b; var b int; var c int = d; var d int = 1; func f(t *q.T) int { b := c; return b + t.M(); }"
	plain := treeOf(t, text)
	n := roomy(plain)
	order, _, _ := inits.Order(n, us)
	needs := inits.Needs(n, us, 0)
	if !slices.Equal(order, []int{3, 2, 0}) || !slices.Equal(needs, []int{1, 2, 3}) {
		t.Error(order, needs)
	}
	if !spared(n) || !reflect.DeepEqual(roomy(plain), n) || !reflect.DeepEqual(us, was) {
		t.Error("what was handed in is changed")
	}
	clear(order[:cap(order)])
	clear(needs[:cap(needs)])
	order, _, _ = inits.Order(n, us)
	needs = inits.Needs(n, us, 0)
	if !slices.Equal(order, []int{3, 2, 0}) || !slices.Equal(needs, []int{1, 2, 3}) {
		t.Error("what was answered is kept:", order, needs)
	}
}
