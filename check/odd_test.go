package check_test

import (
	"strings"
	"testing"

	"mortise/api"
	"mortise/check"
)

// oddType is a type of any form.
func (m *maker) oddType(deep int) api.Type {
	t := api.Type{Kind: m.upTo(13) - 1}
	if m.may() {
		t.Pkg, t.Name = pick(m, "", "q", "a", "z"), pick(m, "", "T", "I", "A", "S")
	}
	if deep > 0 {
		for range m.upTo(3) {
			t.Args = append(t.Args, m.oddType(deep-1))
		}
		for range m.upTo(3) {
			t.Res = append(t.Res, m.oddType(deep-1))
		}
	}
	return t
}

// oddUnit is a unit of any form, in which most is as it should be.
func (m *maker) oddUnit() api.Unit {
	i, one, tvar := face("q", "I"), typ(api.TInt), api.Type{Kind: api.TVar, Name: "A"}
	u := api.Unit{Pkg: pick(m, "q", "q", "q", "a", "z", ""), Decls: []api.Decl{
		{Kind: api.DConst, Name: "C", Value: 1}, {Kind: api.DVar, Name: "V", Type: pick(m, i, one, ptr("q", "T"), slice(one), slice(slice(ptr("q", "T"))), fn(), fn(one), typ(api.TBool), typ(api.TText), tvar)},
		{Kind: api.DStruct, Name: "T", Fields: []api.Field{{Name: "A", Type: pick(m, one, i, ptr("q", "T"))}, {Name: "B", Type: one}}}, {Kind: api.DIface, Name: "I", Fields: []api.Field{{Name: "M", Type: fn()}}},
		{Kind: api.DMethod, Name: "M", Of: "T", Type: fn()}, {Kind: api.DFunc, Name: "F", Type: fn(one)}, {Kind: api.DFunc, Name: "G", Type: fn(tvar), Fields: []api.Field{{Name: "A"}}},
	}}
	for range m.upTo(6) {
		d := &u.Decls[m.upTo(len(u.Decls))]
		switch m.upTo(6) {
		case 0:
			d.Kind = m.upTo(9) - 1
		case 1:
			d.Name = pick(m, "C", "V", "T", "I", "F", "G", "M", "A", "")
		case 2:
			d.Of = pick(m, "T", "", "I")
		case 3, 4:
			d.Type = m.oddType(2)
		case 5:
			d.Fields = append(d.Fields[:0:0], api.Field{Name: pick(m, "A", "M", "B", ""), Type: m.oddType(1)}, api.Field{Name: pick(m, "A", "M", "B", ""), Type: m.oddType(1)})
		}
	}
	return u
}

// uses are packages that use all of another one that its text may name, in all ways.
func uses() []string {
	exprs := []string{"q.C", "q.V", "q.T", "q.I", "q.F", "q.G", "q.M", "q.A", "q.V.A", "q.V.M", "q.F(1)", "q.F()", "q.F(nil, nil)", "q.G(1)", "q.G(q.V)", "q.G(q.V, q.V)", "q.G(nil)", "q.V(1)", "q.V()", "q.V[0]", "q.V[1:]", "q.V == q.V", "q.V == nil", "q.V + q.V", "-q.V", "!q.V", "q.V.(q.I)", "q.V.(*q.T)", "append(q.V, 1)", "append(q.V, q.V)", "len(q.V)", "put(q.V)", "(*q.T).M", "(*q.T).M(nil)", "&q.T{A: 1}", "&q.T{A: q.V}", "[]q.I{q.V, nil}", "q.F(1)(1)", "q.V[0][0]", "q.V.A.A.A", "q.V && q.V", "q.V < 1", "q.F(q.V).M(q.V)"}
	var all []string
	for _, e := range exprs {
		all = append(all, "package a; import q; func f() { x := "+e+"; }", "package a; import q; func f() { "+e+" = q.V; }", "package a; import q; var x int = "+e+"; ", "package a; import q; func f[A q.I](x A) q.I { x = "+e+"; return "+e+"; }", "package a; import q; func f(x *q.T, y q.I) { x = "+e+"; y = "+e+"; "+e+"; if "+e+" { } }")
	}
	return all
}

// Of units of any form something is answered.
func TestOddUnits(t *testing.T) {
	ends := map[api.Errno]int{}
	var trees []api.Node
	for _, s := range uses() {
		trees = append(trees, tree(t, s))
	}
	for round := range 400 {
		m := &maker{state: uint64(round) + 1<<42}
		var us []api.Unit
		for range 1 + m.upTo(3) {
			us = append(us, m.oddUnit())
		}
		for _, n := range trees {
			u, notes, at, e := check.Check(n, us)
			ends[e]++
			if e != api.OK && (!same(u, api.Unit{}) || len(notes) > 0 || at <= 0) || e == api.OK && (at != 0 || len(u.Decls) == 0) {
				t.Fatalf("%v: %d at %d", us, e, at)
			}
		}
	}
	if ends[api.OK] < 1500 || ends[api.ErrName] < 1000 || ends[api.ErrType] < 1000 {
		t.Errorf("how they ended: %v", ends)
	}
}

// A pointer to what is no struct has no fields, and neither has an interface that is one.
func TestOddFields(t *testing.T) {
	fields := []api.Field{{Name: "A", Type: fn()}}
	us := []api.Unit{{Pkg: "q", Decls: []api.Decl{{Kind: api.DStruct, Name: "T", Fields: fields}, {Kind: api.DIface, Name: "I", Fields: fields}, {Kind: api.DVar, Name: "P", Type: ptr("q", "I")}, {Kind: api.DVar, Name: "V", Type: face("q", "T")}, {Kind: api.DVar, Name: "R", Type: ptr("q", "T")}}}}
	checkRight(t, us, "import q; func f() { q.R.A = nil; }")
	for _, s := range []string{"x := q.P.A;", "q.P.A = nil;", "x := q.V.A;", "q.V.A = nil;"} {
		if _, _, _, e := check.Check(tree(t, "package a; import q; func f() { "+s+" }"), us); e != api.ErrName {
			t.Errorf("%q: %d", s, e)
		}
	}
}

// Types in units may be deep, and units long.
func TestGreatUnits(t *testing.T) {
	deep := typ(api.TInt)
	for range 1<<16 - 10 {
		deep = slice(deep)
	}
	var decls []api.Decl
	for range 100000 {
		decls = append(decls, api.Decl{Kind: api.DStruct, Name: "S"}, api.Decl{Kind: api.DMethod, Name: "m", Of: "T", Type: fn()})
	}
	decls = append(decls, api.Decl{Kind: api.DVar, Name: "V", Type: deep}, api.Decl{Kind: api.DStruct, Name: "T"}, api.Decl{Kind: api.DMethod, Name: "M", Of: "T", Type: fn()}, api.Decl{Kind: api.DFunc, Name: "G", Type: fn(api.Type{Kind: api.TVar, Name: "A"}), Fields: []api.Field{{Name: "A"}}})
	us := []api.Unit{{Pkg: "q", Decls: decls}}
	for text, want := range map[string]api.Errno{
		"func f(x *q.T) { x.M(); y := q.V; y = q.V; y = nil; y[0] = nil; q.V = append(y, y[0]); }": api.OK, "func f() { q.G(q.V); }": api.ErrType, "var x int = q.V;": api.ErrType, "func f(x *q.T) { x.N(); }": api.ErrName,
	} {
		if _, _, at, e := check.Check(tree(t, "package a; import q; "+text), us); e != want {
			t.Errorf("%q: %d at %d, want %d", text, e, at, want)
		}
	}
}

// Texts may be as long as they may be.
func TestGreatTexts(t *testing.T) {
	for _, s := range []string{
		"func f() { x := 1; " + strings.Repeat("{ put(x); x := 1; ", 35) + strings.Repeat("}", 35) + " }",
		"func f() { x := 1; " + strings.Repeat("x = x + x; ", 480) + "}",
		"func f(x int) int { return x" + strings.Repeat(" - x", 90) + "; }",
		"var x int; " + strings.Repeat("func f@(x int) int { return x; } ", 200),
		"type T struct { n *T; } func f(t *T) { t = t" + strings.Repeat(".n", 90) + "; }",
		"func f() { " + strings.Repeat("x@ := 1; ", 400) + "}",
	} {
		parts := strings.Split(s, "@")
		s = parts[0]
		for i, part := range parts[1:] {
			s += string(rune('a'+i%26)) + string(rune('a'+i/26)) + part
		}
		checkRight(t, nil, s)
	}
}
