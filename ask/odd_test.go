package ask_test

import (
	"reflect"
	"slices"
	"strings"
	"testing"

	"mortise/api"
	"mortise/ask"
	"mortise/check"
	"mortise/parse"
)

// oddType is a type of any form.
func (m *maker) oddType(deep int) api.Type {
	t := api.Type{Kind: m.upTo(13) - 1}
	if m.may(2) {
		t.Pkg, t.Name = pick(m, "", "q", "p"), pick(m, "", "T", "I", "A")
	}
	if deep > 0 {
		for range m.upTo(3) {
			t.Args = append(t.Args, m.oddType(deep-1))
		}
		for range m.upTo(3) {
			t.Res = append(t.Res, m.oddType(deep-1))
		}
	}
	return t
}

// oddUnit is a unit of any form, in which much is as it should be.
func (m *maker) oddUnit() api.Unit {
	u := api.Unit{Pkg: pick(m, "q", "q", "q", "p", ""), Decls: []api.Decl{
		{Kind: api.DConst, Name: "C", Value: 1}, function("F", 1, 1), function("N", 0, 0),
	}}
	for range m.upTo(5) {
		d := &u.Decls[m.upTo(len(u.Decls))]
		switch m.upTo(7) {
		case 0:
			d.Kind = m.upTo(9) - 1
		case 1:
			d.Name = pick(m, "C", "F", "N", "")
		case 2:
			d.Of = pick(m, "T", "", "I")
		case 3:
			d.Type = m.oddType(2)
		case 4:
			d.Fields = append(d.Fields[:0:0], api.Field{Name: pick(m, "A", "M", ""), Type: m.oddType(1)})
		case 5:
			d.Type.Args = append(d.Type.Args[:0:0], pick(m, one(), m.oddType(0)))
		case 6:
			d.Type.Res = append(d.Type.Res[:0:0], pick(m, one(), m.oddType(0)), one())[:1+m.upTo(2)]
		}
	}
	return u
}

// uses are texts that use what may be in odd units.
func uses() []string {
	var texts []string
	for _, e := range []string{"q.C", "q.F", "q.N", "q.F(1)", "q.F(nil)", "q.N()", "q.F(1) + q.C", "q.C(1)", "q.F == nil", "q.F.A", "q.N.M()", "q.F(1)(1)", "q.F[0]", "-q.C", "q.F(q.C)", "q.F(q.N)", "&q.C{}", "(*q.C).M", "[]q.N{}"} {
		texts = append(texts, "package p; import q; func F() { x := "+e+"; }", "package p; import q; func F() { "+e+"; }", "package p; import q; var x int = "+e+"; func F() { x = "+e+"; }", "package p; import q; func f(g func(int) int, h func()) { } func F() { f("+e+", "+e+"); f("+e+", nil); }", "package p; import q; func id[A any](x A) A { return x; } func F() { x := id("+e+"); put("+e+"); }")
	}
	return texts
}

// Of units of any form something is answered: layer 10's error ahead of all, and only of ints is anything asked.
func TestOddUnits(t *testing.T) {
	ends := map[api.Errno]int{}
	var trees []api.Node
	for _, s := range uses() {
		tree, _, err := parse.Parse(s)
		if err != api.OK {
			t.Fatal(s, err)
		}
		trees = append(trees, tree)
	}
	for round := range 200 {
		m := &maker{state: uint64(round)}
		us := []api.Unit{m.oddUnit(), m.oddUnit()}
		for i, s := range uses() {
			_, _, _, refused := check.Check(trees[i], us)
			events, err := ask.Play(s, us, asked("F;F"), []int64{1, 2, 3}, far)
			ends[err]++
			if refused != api.OK && err != refused || refused == api.OK && err != api.OK && err != api.ErrType || err != api.OK && len(events) > 0 {
				t.Errorf("%s: %v: %d, layer 10 tells %d", s, us, err, refused)
			}
			for _, e := range events {
				if e.Kind == api.EventCall && !strings.HasPrefix(e.Name, "q.") {
					t.Errorf("%s: %v: %v", s, us, events)
				}
			}
		}
	}
	if ends[api.OK] < 1000 || ends[api.ErrName] < 1000 || ends[api.ErrType] < 1000 {
		t.Error("how they ended:", ends)
	}
}

// 14.2: what is a function of ints but in a part is none.
func TestOddFunctions(t *testing.T) {
	odd := api.Type{Kind: api.TInt, Name: "T"}
	for _, c := range []struct {
		d   api.Decl
		use string
		err api.Errno
	}{
		{function("F", 1, 1), "x := q.F;", api.OK},
		{api.Decl{Kind: api.DFunc, Name: "F", Of: "T", Value: 8, Type: fn(ints(1), ints(1))}, "x := q.F(1);", api.OK},
		{api.Decl{Kind: api.DConst, Name: "F", Of: "T", Value: 8, Type: fn(ints(1), nil)}, "x := q.F + 1;", api.OK},
		{function("F", 9, 1), "x := q.F(1, 2, 3, 4, 5, 6, 7, 8, 9);", api.OK},
		{function("F", 1, 2), "x := q.F(1);", api.ErrType},
		{function("F", 1, 2), "x := q.F;", api.ErrType},
		{api.Decl{Kind: api.DFunc, Name: "F", Type: one()}, "x := q.F;", api.ErrType},
		{api.Decl{Kind: api.DFunc, Name: "F", Type: one()}, "put(q.F + 1);", api.ErrType},
		{api.Decl{Kind: api.DFunc, Name: "F", Type: api.Type{Kind: api.TSlice, Args: ints(1)}}, "x := q.F[0];", api.ErrType},
		{api.Decl{Kind: api.DFunc, Name: "F", Type: fn([]api.Type{odd}, nil)}, "x := q.F;", api.ErrType},
		{api.Decl{Kind: api.DFunc, Name: "F", Type: fn(nil, []api.Type{odd})}, "x := q.F;", api.ErrType},
		{api.Decl{Kind: api.DFunc, Name: "F", Type: fn(ints(1), nil), Fields: []api.Field{{Name: "A"}}}, "q.F(1);", api.ErrType},
		{api.Decl{Kind: api.DVar, Name: "F", Type: fn(ints(1), nil)}, "q.F(1);", api.ErrType},
		{api.Decl{Kind: 99, Name: "F", Type: fn(ints(1), nil)}, "q.F(1);", api.ErrType},
	} {
		us := []api.Unit{{Pkg: "q", Decls: []api.Decl{c.d}}}
		if events, err := ask.Play("package p; import q; func f() { "+c.use+" }", us, nil, nil, far); err != c.err || len(events) > 0 {
			t.Errorf("14.2: %v with %s: %d, want %d", c.d, c.use, err, c.err)
		}
	}
}

// R1: texts of any form have an answer.
func TestOddTexts(t *testing.T) {
	for _, s := range []string{"", "package", "package p", "package p;", "\xff", "package p; import q", "package p; func F(", strings.Repeat("(", 10000), strings.Repeat("a", api.MaxText+1)} {
		events, err := ask.Play(s, others(), nil, []int64{1}, far)
		_, _, want := parse.Parse(s)
		if err != want || len(events) > 0 {
			t.Errorf("14.2: %.20q: %d, want %d", s, err, want)
		}
	}
}

// R3: what is handed in is not changed, and what is answered is new.
func TestNew(t *testing.T) {
	const text = "package p; import q; func F(a int, b int) int { q.P(a, b); return q.G(a); } func G() { q.N(); }"
	us, asks, answers := others(), asked("F(1,2);G;F(3,4)"), []int64{5, 6, 7}
	room := append(answers, 99)[:3]
	events, err := ask.Play(text, us, asks, room, far)
	again, _ := ask.Play(text, us, asks, answers, far)
	if err != api.OK || !reflect.DeepEqual(events, again) || !reflect.DeepEqual(us, others()) || !reflect.DeepEqual(asks, asked("F(1,2);G;F(3,4)")) || !slices.Equal(room[:4], []int64{5, 6, 7, 99}) {
		t.Fatal("R3:", err, told(events), told(again), us, asks, room)
	}
	want := told(events)
	for i := range events {
		for j := range events[i].Args {
			was := events[i].Args[j]
			events[i].Args[j] = 1000
			_ = append(events[i].Args, 2000)
			for k := range events {
				if k != i && !reflect.DeepEqual(events[k], again[k]) {
					t.Errorf("R3: events %d and %d share", i, k)
				}
			}
			events[i].Args[j] = was
		}
	}
	if !slices.Equal(room[:4], []int64{5, 6, 7, 99}) || !reflect.DeepEqual(asks, asked("F(1,2);G;F(3,4)")) || told(events) != want || told(again) != want {
		t.Error("R3: events share with what was handed in")
	}
}
