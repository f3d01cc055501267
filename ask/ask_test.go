package ask_test

import (
	"slices"
	"strconv"
	"strings"
	"testing"

	"mortise/api"
	"mortise/ask"
)

// far is as much fuel as small packages need.
const far = 100000

func one() api.Type { return api.Type{Kind: api.TInt} }

func ints(n int) []api.Type { return slices.Repeat([]api.Type{one()}, n) }

func fn(params, results []api.Type) api.Type {
	return api.Type{Kind: api.TFunc, Args: params, Res: results}
}

func function(name string, params, results int) api.Decl {
	return api.Decl{Kind: api.DFunc, Name: name, Type: fn(ints(params), ints(results))}
}

// others are two packages, all of which can be named.
func others() []api.Unit {
	return []api.Unit{
		{Pkg: "q", Decls: []api.Decl{
			function("N", 0, 0), function("H", 0, 1), function("G", 1, 1), function("P", 2, 0), function("W", 8, 1),
			{Kind: api.DConst, Name: "C", Value: 5}, {Kind: api.DConst, Name: "L", Value: -1 << 63}, {Kind: api.DFunc, Name: "lower", Type: fn(nil, nil)},
		}},
		{Pkg: "r", Decls: []api.Decl{function("G", 2, 1), {Kind: api.DConst, Name: "C", Value: 6}}},
		{Pkg: "q", Decls: []api.Decl{function("G", 3, 0), function("Z", 0, 0)}},
	}
}

// asked are asks, told as F or F(1, -2), with ; between.
func asked(told string) []api.Ask {
	var asks []api.Ask
	for _, one := range strings.FieldsFunc(told, func(r rune) bool { return r == ';' || r == ' ' }) {
		name, args, _ := strings.Cut(strings.TrimSuffix(one, ")"), "(")
		a := api.Ask{Name: name}
		for _, arg := range strings.FieldsFunc(args, func(r rune) bool { return r == ',' }) {
			n, err := strconv.ParseInt(arg, 10, 64)
			if err != nil {
				panic(err)
			}
			a.Args = append(a.Args, n)
		}
		asks = append(asks, a)
	}
	return asks
}

// told are events as text: calls as ?q.G(1), answers as F=2 (or F), panics as !3, stops as a point.
func told(events []api.Event) string {
	var all []string
	for _, e := range events {
		var args []string
		for _, n := range e.Args {
			args = append(args, strconv.FormatInt(n, 10))
		}
		list := strings.Join(args, ",")
		switch {
		case e.Kind == api.EventCall:
			all = append(all, "?"+e.Name+"("+list+")")
		case e.Kind == api.EventAnswer && len(args) == 0:
			all = append(all, e.Name)
		case e.Kind == api.EventAnswer:
			all = append(all, e.Name+"="+list)
		case e.Kind == api.EventPanic && e.Name == "":
			all = append(all, "!"+list)
		case e.Kind == api.EventStop && e.Name == "" && len(args) == 0:
			all = append(all, ".")
		default:
			all = append(all, "odd: "+e.Name+list)
		}
	}
	return strings.Join(all, " ")
}

type sample struct {
	text    string
	asks    string
	answers []int64
	want    string
}

func checkPlays(t *testing.T, samples []sample) {
	t.Helper()
	for _, s := range samples {
		events, err := ask.Play("package p; "+s.text, others(), asked(s.asks), s.answers, far)
		if got := told(events); err != api.OK || got != s.want {
			t.Errorf("14.1: %s\nasked %s: %d %s, want %s", s.text, s.asks, err, got, s.want)
		}
	}
}

// 14.1: calls of other packages' functions are questions; asks are answered one behind the other.
func TestPlay(t *testing.T) {
	checkPlays(t, []sample{
		{"", "", nil, ""},
		{"import q; import r;", "", []int64{1}, ""},
		{"func F() { }", "", nil, ""},
		{"func F() { }", "F;F;F", nil, "F F F"},
		{"func F() int { return 7; }", "F", nil, "F=7"},
		{"func F(x int) int { return x; }", "F(0);F(-5);F(9223372036854775807);F(-9223372036854775808)", nil, "F=0 F=-5 F=9223372036854775807 F=-9223372036854775808"},
		{"func F(a int, b int, c int) int { return a - b * c; } func G(x int) { }", "F(1,2,3);G(4);F(3,2,1)", nil, "F=-5 G F=1"},
		{"func F(a int, b int, c int, d int, e int, f int, g int, h int) int { return ((((((a * 2 + b) * 2 + c) * 2 + d) * 2 + e) * 2 + f) * 2 + g) * 2 + h; }", "F(1,0,0,1,1,0,0,1)", nil, "F=153"},
		{"import q; func F(x int) int { return q.G(x) + 1; }", "F(4)", []int64{6}, "?q.G(4) F=7"},
		{"import q; func F() { q.N(); }", "F;F", nil, "?q.N() F ?q.N() F"},
		{"import q; func F() int { return q.H(); }", "F;F", []int64{-9223372036854775808, 9223372036854775807, 3}, "?q.H() F=-9223372036854775808 ?q.H() F=9223372036854775807"},
		{"import q; func F() int { return q.W(1, -2, 3, 4, 5, 6, q.L, 8); }", "F", []int64{0}, "?q.W(1,-2,3,4,5,6,-9223372036854775808,8) F=0"},
		{"import q; func F() { q.H(); q.G(1); q.P(q.H(), 2); }", "F", []int64{1, 2, 3}, "?q.H() ?q.G(1) ?q.H() ?q.P(3,2) F"},
		{"import q; import r; func F(x int) int { return r.G(q.G(x), x) - q.G(r.C) * q.C; }", "F(7)", []int64{10, 20, 30}, "?q.G(7) ?r.G(10,7) ?q.G(6) F=-130"},
		{"import q; func F(x int) int { return q.G(q.G(q.G(x))); }", "F(1)", []int64{2, 3, 4}, "?q.G(1) ?q.G(2) ?q.G(3) F=4"},
		{"import q; func F() bool { return true; } func f() { q.N(); } func K() { f(); }", "K", nil, "?q.N() K"},
	})
}

// 14.1: first the package's vars begin, in layer 11's order.
func TestVars(t *testing.T) {
	checkPlays(t, []sample{
		{"import q; var x int = q.G(1);", "", []int64{5}, "?q.G(1)"},
		{"import q; var x int = y + q.G(1); var y int = q.G(2); var z int; func F() int { return x * 100 + y * 10 + z; }", "F", []int64{3, 4}, "?q.G(2) ?q.G(1) F=730"},
		{"import q; var x int = f(); var y int = q.H(); func f() int { return y + 1; } func X() int { x = x + 1; return x; } func Y() int { return y; }", "X;Y;X;Y", []int64{40}, "?q.H() X=42 Y=40 X=43 Y=40"},
		{"var n int; func F() int { n = n + 1; return n; }", "F;F;F", nil, "F=1 F=2 F=3"},
		{"import q; const C = 9; var s []int; func F(x int) int { s = append(s, q.G(x)); return len(s) * 10 + s[0] + C; }", "F(1);F(2)", []int64{3, 4}, "?q.G(1) F=22 ?q.G(2) F=32"},
		{"import q; var f func(int) int = q.G; var g func(int) int; func F(x int) int { return f(x); } func G(x int) int { g = f; f = nil; return g(x); }", "F(1);G(2);F(3)", []int64{5, 6}, "?q.G(1) F=5 ?q.G(2) G=6 !1"},
	})
}

// 14.1: a question is asked by what is called, however that was come by.
func TestFuncs(t *testing.T) {
	checkPlays(t, []sample{
		{"import q; func F() int { f := q.G; g := f; return g(3); }", "F", []int64{4}, "?q.G(3) F=4"},
		{"import q; func F() { f := q.P; f(1, 2); n := q.N; n(); n(); }", "F", nil, "?q.P(1,2) ?q.N() ?q.N() F"},
		{"import q; func do(f func(int) int, x int) int { return f(x) * 2; } func F() int { return do(q.G, 3) + do(func(x int) int { return q.G(x + 1); }, 3); }", "F", []int64{4, 5}, "?q.G(3) ?q.G(4) F=18"},
		{"import q; func id[A any](x A) A { return x; } func F() int { return id(q.G)(id(q.C)); }", "F", []int64{4}, "?q.G(5) F=4"},
		{"import q; type T struct { f func(int) int; } func (t *T) m(x int) int { return t.f(x); } type I interface { m(int) int; } func F() int { var i I = &T{f: q.G}; return i.m(8) + (*T).m(&T{f: q.G}, 9); }", "F", []int64{4, 5}, "?q.G(8) ?q.G(9) F=9"},
		{"import q; type T struct { } func (t *T) m() int { return q.H(); } type I interface { m() int; } type J interface { k(); } type E interface { } func F() int { var e E = &T{}; e.(*T).m(); e.(I).m(); e.(J).k(); return 1; }", "F", []int64{4, 5}, "?q.H() ?q.H() !4"},
		{"import q; import r; func F(x int) int { l := []func(int) int{q.G, func(x int) int { return r.G(x, x); }}; return l[x](7); }", "F(0);F(1);F(2)", []int64{4, 5}, "?q.G(7) F=4 ?r.G(7,7) F=5 !2"},
		{"import q; func get2() func() int { return q.H; } func F() int { if q.H == nil { return 1; } if q.N != nil { return get2()(); } return 2; }", "F", []int64{4}, "?q.H() F=4"},
		{"import q; func F() int { s := 0; i := 0; for i < 3 { i = i + 1; s = s * 10 + q.G(i); } return s; }", "F", []int64{4, 5, 6}, "?q.G(1) ?q.G(2) ?q.G(3) F=456"},
		{"import q; func F(n int) int { if n == 0 { return 0; } return F(n - 1) + q.G(n); }", "F(3)", []int64{4, 5, 6}, "?q.G(1) ?q.G(2) ?q.G(3) F=15"},
		{"import q; func F() int { if q.G(1) > 0 && q.G(2) > 0 || q.G(3) > 0 { return 1; } return 0; }", "F;F;F", []int64{1, 1, 0, 1, 1, 0, 0}, "?q.G(1) ?q.G(2) F=1 ?q.G(1) ?q.G(3) F=1 ?q.G(1) ?q.G(2) ?q.G(3) F=0"},
	})
}

// 14.1: names are those of the innermost scope: what hides a package's name is no question.
func TestHidden(t *testing.T) {
	checkPlays(t, []sample{
		{"import q; type T struct { G int; C func() int; } func F(x int) int { y := q.G(x); q := &T{G: y + 1, C: func() int { return 50; }}; return q.G + q.C(); }", "F(1)", []int64{4}, "?q.G(1) F=55"},
		{"import q; type T struct { } func (t *T) G(x int) int { return -x; } func f(q *T) int { return q.G(1); } func F() int { return f(nil) + q.G(2); }", "F", []int64{4}, "?q.G(2) F=3"},
		{"import q; type T struct { V *T; } func f(q *T) { q.V = nil; } func F(q int) int { return q; } func G() int { f(&T{}); return q.C; }", "F(3);G", nil, "F=3 G=5"},
		{"import q; func G(x int) int { return x + 1; } func F(x int) int { return G(x) + q.G(x); }", "F(1);G(1)", []int64{4}, "?q.G(1) F=6 G=2"},
	})
}

// 14.1: get() is -1, put writes nothing.
func TestInOut(t *testing.T) {
	checkPlays(t, []sample{
		{"func F() int { put(65); put(-1); return get() * 10 + get(); }", "F;F", []int64{1, 2}, "F=-11 F=-11"},
		{"import q; var x int = get(); func F() int { i := 0; for i < 5000 { put(i); i = i + 1; } return q.G(x); }", "F", []int64{1}, "?q.G(-1) F=1"},
	})
}

// 14.1: a panic is the last event.
func TestPanics(t *testing.T) {
	checkPlays(t, []sample{
		{"var x int = 1 / 0; func F() { }", "F", nil, "!3"},
		{"import q; var x int = q.G(1) / 0; var y int = q.G(2);", "", []int64{4, 5}, "?q.G(1) !3"},
		{"func F(x int) int { return 5 / x; }", "F(2);F(0);F(1)", nil, "F=2 !3"},
		{"func F(x int) { panic(x); }", "F(-2)", nil, "!510"},
		{"func F(x int) int { panic(x); }", "F(0);F(1)", nil, "!256"},
		{"type T struct { n int; } func F() int { var t *T; return t.n; }", "F", nil, "!1"},
		{"func F(x int) int { return []int{1, 2}[x]; }", "F(1);F(2)", nil, "F=2 !2"},
		{"type I interface { } func F() { var i I; i = i.(I); }", "F", nil, "!4"},
		{"func F(x int) int { return len(\"abc\"[x:]); }", "F(3);F(4)", nil, "F=0 !5"},
		{"func F(x int) int { return len(make([]int, x)); }", "F(9);F(-1)", nil, "F=9 !6"},
		{"import q; func F(x int) { q.P(q.G(1), 1 / x); q.N(); }", "F(1);F(0)", []int64{4, 5}, "?q.G(1) ?q.P(4,1) ?q.N() F ?q.G(1) !3"},
		{"import q; func F() int { f := q.G; f = nil; return f(q.H()); }", "F", []int64{4}, "?q.H() !1"},
		{"import q; func F() { q.N(); panic(q.H()); }", "F;F", []int64{7}, "?q.N() ?q.H() !263"},
	})
}
