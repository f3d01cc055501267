package ask_test

import (
	"strings"
	"testing"

	"mortise/api"
	"mortise/ask"
)

// all are packages that declare things of all kinds; as a question serves what begins with Good, and the consts.
func all() []api.Unit {
	text, truth, slice := api.Type{Kind: api.TText}, api.Type{Kind: api.TBool}, api.Type{Kind: api.TSlice, Args: ints(1)}
	pointer, face, variable := api.Type{Kind: api.TPtr, Pkg: "q", Name: "T"}, api.Type{Kind: api.TIface, Pkg: "q", Name: "I"}, api.Type{Kind: api.TVar, Name: "A"}
	any := []api.Field{{Name: "A"}}
	types := func(l ...api.Type) []api.Type { return l }
	return []api.Unit{{Pkg: "q", Decls: []api.Decl{
		function("Good", 0, 0), function("Good1", 8, 1), {Kind: api.DConst, Name: "C", Value: 5},
		{Kind: api.DVar, Name: "V", Type: one()}, {Kind: api.DVar, Name: "P", Type: pointer}, {Kind: api.DVar, Name: "F", Type: fn(nil, nil)},
		{Kind: api.DStruct, Name: "T", Fields: []api.Field{{Name: "N", Type: one()}}}, {Kind: api.DMethod, Name: "M", Of: "T", Type: fn(nil, nil)}, {Kind: api.DMethod, Name: "Good2", Of: "T", Type: fn(nil, nil)},
		{Kind: api.DIface, Name: "I"},
		{Kind: api.DFunc, Name: "Bool", Type: fn(types(truth), nil)}, {Kind: api.DFunc, Name: "ToBool", Type: fn(nil, types(truth))},
		{Kind: api.DFunc, Name: "Text", Type: fn(types(one(), text), nil)}, {Kind: api.DFunc, Name: "ToText", Type: fn(ints(1), types(text))},
		{Kind: api.DFunc, Name: "Slice", Type: fn(types(slice), ints(1))}, {Kind: api.DFunc, Name: "ToSlice", Type: fn(nil, types(slice))},
		{Kind: api.DFunc, Name: "Ptr", Type: fn(types(one(), one(), pointer), nil)}, {Kind: api.DFunc, Name: "ToPtr", Type: fn(nil, types(pointer))},
		{Kind: api.DFunc, Name: "Face", Type: fn(types(face), nil)}, {Kind: api.DFunc, Name: "ToFace", Type: fn(nil, types(face))},
		{Kind: api.DFunc, Name: "Func", Type: fn(types(fn(nil, nil)), nil)}, {Kind: api.DFunc, Name: "ToFunc", Type: fn(nil, types(fn(nil, nil)))},
		{Kind: api.DFunc, Name: "Any", Type: fn(types(variable), nil), Fields: any}, {Kind: api.DFunc, Name: "AnyInt", Type: fn(types(variable, one()), ints(1)), Fields: any},
		function("low", 0, 0),
	}}}
}

// refusal is a text, what is asked, and the error that this is.
type refusal struct {
	text string
	asks string
	err  api.Errno
}

func checkRefused(t *testing.T, us []api.Unit, refusals []refusal) {
	t.Helper()
	for _, r := range refusals {
		for _, fuel := range []int{0, far} {
			events, err := ask.Play("package p; "+r.text, us, asked(r.asks), []int64{1, 2}, fuel)
			if err != r.err || err != api.OK && len(events) > 0 {
				t.Errorf("14.2: %s asked %s: %d %s, want %d", r.text[:min(len(r.text), 300)], r.asks, err, told(events), r.err)
			}
		}
	}
}

// 14.2: the errors of layers 5, 10 and 11, with the units that are handed in.
func TestWrongTexts(t *testing.T) {
	checkRefused(t, all(), []refusal{
		{"x", "", api.ErrText},
		{"var x int = 07;", "", api.ErrText},
		{"var x int = \"", "", api.ErrText},
		{"import z;", "", api.ErrName},
		{"import p;", "", api.ErrName},
		{"var x int = y;", "", api.ErrName},
		{"import q; var x int = q.Z;", "", api.ErrName},
		{"import q; var x int = q.low();", "", api.ErrName},
		{"import q; var x int = q.M;", "", api.ErrName},
		{"var x int = q.C;", "", api.ErrName},
		{"import q; import q;", "", api.ErrTwice},
		{"var x int; func x() { }", "", api.ErrTwice},
		{"import q; var x bool = q.C;", "", api.ErrType},
		{"import q; var x int = q.Good();", "", api.ErrType},
		{"import q; var x int = q.Good1();", "", api.ErrType},
		{"var x int = x;", "", api.ErrCycle},
		{"var x int = f(); func f() int { return x; }", "", api.ErrCycle},
	})
	// Layer 6 writes that text as one that is too long.
	long := "func f() { " + strings.Repeat("{}", 2500) + "}"
	checkRefused(t, nil, []refusal{{long, "", api.ErrForm}, {long, "G", api.ErrForm}})
	deep := "func f() { x := " + strings.Repeat("(", 41)
	checkRefused(t, nil, []refusal{{deep, "", api.ErrDeep}})
}

// 14.2: what is named of another package is a const or a function of ints, wherever it is named.
func TestNamed(t *testing.T) {
	checkRefused(t, all(), []refusal{
		{"import q;", "", api.OK},
		{"import q; func f() { q.Good(); x := q.Good; y := q.C; }", "", api.OK},
		{"import q; func f() { x := q.Good1; y := q.Good1(1, 2, 3, 4, 5, 6, 7, 8) + q.C; }", "", api.OK},
	})
	for _, text := range []string{
		"var x int = q.V;", "func f() { q.V = 1; }", "func f() { q.V = q.C; }", "func f() { x := q.P; }", "func f() { x := q.P.N; }", "func f() { q.P.N = 1; }", "func f() { q.P.M(); }", "func f() { x := q.P.M; }", "func f() { q.F(); }", "func f() { q.F = q.Good; }", "func f() { if q.F == nil { } }",
		"func f() { func() { x := q.V; }(); }", "func f() { q.Good(); put(1 + len([]int{1, q.V})); }", "func f() { for true { if false { } else if q.V == 1 { } } }", "func f() { x := -q.V; }", "func f(s []int) int { return s[1:q.V][0]; }", "func f(s []int) { s[q.V] = 1; }", "func f() { panic(q.V); }", "func f() []int { return make([]int, q.V); }", "type S struct { n int; } func f() *S { return &S{n: q.V}; }",
		"var x *q.T;", "var x []*q.T;", "var x q.I;", "var x func(*q.T);", "var x func() []q.I;", "func f() { var x *q.T; }", "func f(x *q.T) { }", "func f(x int, y []q.I) { }", "func f() *q.T { return nil; }", "func f() { x := func(y q.I) { }; }", "func f() { x := func() []*q.T { return nil; }; }", "func f() { x := []*q.T{}; }", "func f() { x := make([]q.I, 1); }",
		"type S struct { a int; t *q.T; }", "type S struct { f func(q.I) int; }", "type J interface { m(*q.T); }", "type J interface { m(int) q.I; }", "type S struct { } func (s *S) m(x *q.T) { }", "type S struct { } func (s *S) m() q.I { return nil; }",
		"func f[A q.I](x A) { }", "func f[A any, B q.I](x A, y B) { }", "func f[A any](x A, y *q.T) { }",
		"func f() { x := &q.T{}; }", "func f() { x := &q.T{N: 1}; }", "func f() { put((&q.T{}).N); }", "func f() { (*q.T).M(nil); }", "func f() { x := (*q.T).Good2; }", "type J interface { } func f(x J) { y := x.(*q.T); }", "type J interface { } func f(x J) { y := x.(q.I); }",
		"func f() { q.Bool(true); }", "func f() { if q.ToBool() { } }", "func f() { q.Text(1, \"\"); }", "func f() { q.ToText(1); }", "func f() { q.Slice(nil); }", "func f() { put(q.ToSlice()[0]); }", "func f() { q.Ptr(1, 2, nil); }", "func f() { q.ToPtr(); }", "func f() { q.ToPtr().M(); }", "func f() { q.Face(nil); }", "func f() { q.ToFace(); }", "func f() { q.Func(q.Good); }", "func f() { q.ToFunc()(); }", "func f() { q.Any(1); }", "func f() { q.AnyInt(1, 2); }", "func f() { x := q.Bool; }", "func f() { x := q.ToText; }",
		"func f(q int) { var x *q.T; }", "func f(q int) { x := &q.T{}; }", "func f() { if true { q := 1; put(q); } q.V = 1; }", "func f() { q := q.V; }", "func f(x int) { func(q int) { }(1); put(q.V); }",
	} {
		checkRefused(t, all(), []refusal{{"import q; " + text, "", api.ErrType}})
	}
}

// 14.2: what hides the name of a package is no name of that one.
func TestNotNamed(t *testing.T) {
	const text = "import q; type T struct { V int; P *T; Any int; } func (t *T) Bool(x bool) { } "
	for _, s := range []string{
		"func f(q *T) { q.V = q.P.V + q.Any; q.Bool(true); x := q.Bool; }", "func f() { q := &T{V: 1, P: &T{}}; put(q.V); q.P.P = q; }", "func f() { var q *T; func() { put(q.V); }(); }", "func (q *T) m() int { return q.V; }", "type J interface { Text(); } func f(q J) { q.Text(); }", "type J interface { Text(); } func f[A J](q A) { q.Text(); }",
		"func f() { x := &T{}; x.Bool(true); x.V = x.Any; (*T).Bool(x, false); }", "var x *T = &T{V: 1, Any: 2}; func f() { x.P.V = x.V; }",
	} {
		checkRefused(t, all(), []refusal{{text + s, "", api.OK}})
	}
}

// 14.2: an ask is of an exported function of ints, with as many arguments.
func TestWrongAsks(t *testing.T) {
	const text = "import q; const C = 1; var V int; var W func() = F; type T struct { } type I interface { M(); } func F() { } func G(x int) int { return x; } func H(a int, b int, c int) { } func low() { } func Bool(x bool) { } func ToBool() bool { return true; } func Text(x int, s string) { } func ToText(x int) string { return \"\"; } func Slice(s []int) int { return 1; } func ToSlice() []int { return nil; } func Ptr(a int, b *T) { } func ToPtr() *T { return nil; } func Face(i I) { } func ToFace() I { return nil; } func Func(f func()) { } func ToFunc() func() { return F; } func Any[A any](x A) { } func AnyInt[A any](x A, y int) int { return y; } func AnyOf[A any](x int) int { return x; } func (t *T) M() { } func (t *T) N(x int) int { return x; }"
	for _, asks := range []string{
		"Z", "C", "V", "W", "T", "I", "M", "N(1)", "T.M", "low", "p.F", "f", "FF", "q", "q.Good", "Good", "p#",
		"F(1)", "G", "G(1,2)", "H(1,2)", "H(1,2,3,4)", "H",
		"Bool", "Bool(1)", "ToBool", "Text(1,2)", "ToText(1)", "Slice(1)", "ToSlice", "Ptr(1,2)", "ToPtr", "Face(1)", "ToFace", "Func(1)", "ToFunc", "Any(1)", "AnyInt(1,2)", "Any", "AnyInt(1)", "AnyOf(1)",
	} {
		checkRefused(t, all(), []refusal{{text, asks, api.ErrArg}, {text, "F;G(1);" + asks, api.ErrArg}, {text, asks + ";F", api.ErrArg}})
	}
	checkRefused(t, all(), []refusal{{text, "F;G(1);H(1,2,3);F", api.OK}, {"func A() { } func Z() { } func M9() { }", "A;Z;M9", api.OK}})
	for _, name := range []string{"", "F\x00", " F", "F ", "p.G"} {
		events, err := ask.Play("package p; "+text, all(), []api.Ask{{Name: name}}, nil, far)
		if err != api.ErrArg || len(events) > 0 {
			t.Errorf("14.2: asked %q: %d %s", name, err, told(events))
		}
	}
}

// 14.2: of several errors the first one is told; with what is asked nothing is done ahead of it.
func TestFirstError(t *testing.T) {
	checkRefused(t, all(), []refusal{
		{"import z; var x int = 1 +;", "Z", api.ErrText},
		{"import z; import q; var x int = q.V;", "Z", api.ErrName},
		{"import q; var x int = q.V; var y int = true;", "Z", api.ErrType},
		{"import q; var x int = x; var y int = q.V;", "Z", api.ErrCycle},
		{"var x int = x;", "Z", api.ErrCycle},
		{"import q; var x int = q.V;", "Z", api.ErrType},
		{"import q; var x int = 1 / 0; var y int = q.V;", "", api.ErrType},
		{"import q; var x int = 1 / 0;", "Z", api.ErrArg},
	})
}

// Of several units of one name the first counts, and the package's own ahead of all.
func TestSeveralUnits(t *testing.T) {
	us := append([]api.Unit{{Pkg: "q", Decls: []api.Decl{function("V", 1, 1), {Kind: api.DConst, Name: "Any", Value: 7}, function("W", 0, 1), {Kind: api.DVar, Name: "W", Type: one()}, {Kind: api.DMethod, Name: "X", Of: "T", Type: fn(nil, nil)}, function("X", 0, 0)}}, {Pkg: "p", Decls: []api.Decl{{Kind: api.DVar, Name: "F", Type: one()}, function("Z", 0, 0), {Kind: api.DStruct, Name: "T"}}}}, all()...)
	checkRefused(t, us, []refusal{
		{"import q; func f() { q.V(q.Any); }", "", api.OK}, {"import q; func f() { q.W(); q.X(); }", "", api.OK}, {"import q; func f() { q.Good(); }", "", api.ErrName},
		{"func F() { }", "F", api.OK}, {"func F() { }", "Z", api.ErrArg}, {"var x *T;", "", api.ErrName},
	})
	events, err := ask.Play("package p; import q; func F() int { return q.V(q.Any) + q.W(); }", us, asked("F"), []int64{1, 2}, far)
	if err != api.OK || told(events) != "?q.V(7) ?q.W() F=3" {
		t.Error("14.1: of the first unit:", err, told(events))
	}
}
