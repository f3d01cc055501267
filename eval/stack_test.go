package eval_test

import (
	"strconv"
	"strings"
	"testing"

	"mortise/api"
	"mortise/eval"
	"mortise/prog"
)

// 13.2: the greatest sum over open calls, of 16 and the frames.
func TestStack(t *testing.T) {
	const text = "package main; import a; type T struct { } type I interface { m(int); } func (t *T) m(n int) { if n > 0 { t.m(n - 1); } } func f(n int) { if n > 0 { f(n - 1); } } func g[A any](x A, n int) { if n > 0 { g(x, n - 1); } } func main() { put(1); LAST }"
	const other = "package a; var X int = F(2); func F(n int) int { if n > 0 { return F(n - 1); } return 1; }"
	syms := []api.Sym{
		{Name: "main.f", Kind: api.SymCode, Frame: 10, Size: 99}, {Name: "main.T.m", Frame: 100}, {Name: "main.g", Frame: 1000}, {Name: "a.F", Frame: 3}, {Name: "main.main", Frame: 1}, {Name: "main.f", Frame: 7000},
	}
	for _, c := range []struct {
		last string
		want int
	}{
		{"", 4*16 + 9}, // of a#, with F three times
		{"f(0);", 4*16 + 9},
		{"f(3);", 17 + 4*26},
		{"f(3); f(2);", 17 + 4*26},
		{"f(1); f(5); f(2);", 17 + 6*26},
		{"f(1); f(5); g(1, 0); f(2);", 17 + 1016},
		{"g(true, 0);", 17 + 1016},
		{"g(1, 4); f(30);", 17 + 5*1016},
		{"(&T{}).m(2);", 17 + 3*116},
		{"var i I = &T{}; i.m(2);", 17 + 3*116},
		{"h := (&T{}).m; h(2);", 17 + 3*116},
		{"h := (*T).m; h(nil, 2);", 17 + 3*116},
		{"h := f; h(4);", 17 + 5*26},
		{"func() { f(3); }();", 17 + 16 + 4*26},
		{"put(a.F(9));", 17 + 10*19},
		{"x := append([]int{}, 1); put(len(x)); y := make([]int, 3); put(get());", 4*16 + 9},
		{"f(398);", 17 + 399*26},
		{"f(399);", 17 + 399*26},
		{"panic(1); f(3);", 4*16 + 9},
		{"if 1 / 0 == 0 { f(3); }", 4*16 + 9},
		{"f(1 / 0 + 3);", 4*16 + 9},
		{"var k func(int); k(3);", 4*16 + 9},
	} {
		if n := eval.Stack([]string{replaced(text, c.last), other}, nil, far, syms); n != c.want {
			t.Errorf("13.2: %s: %d, want %d", c.last, n, c.want)
		}
	}
}

// 13.2: which frames count, and all names of code.
func TestFrames(t *testing.T) {
	text := "package main; type T struct { } func (t *T) m() { } var v func() = func() { func() { }(); }; func main() { v(); (*T).m(nil); }"
	texts := []string{text}
	outer, inner := "main@"+strconv.Itoa(strings.Index(text, "func() { func")), "main@"+strconv.Itoa(strings.Index(text, "func() { }"))
	for _, c := range []struct {
		syms []api.Sym
		want int
	}{
		{nil, 3 * 16},
		{[]api.Sym{{Name: "main#", Frame: 1}}, 3 * 16},
		{[]api.Sym{{Name: "main#", Frame: 100}}, 116},
		{[]api.Sym{{Name: "main.main", Frame: 100}}, 3*16 + 100},
		{[]api.Sym{{Name: "main.T.m", Frame: 100}}, 2*16 + 100},
		{[]api.Sym{{Name: outer, Frame: 100}}, 3*16 + 100},
		{[]api.Sym{{Name: inner, Frame: 100}}, 3*16 + 100},
		{[]api.Sym{{Name: outer, Frame: 100}, {Name: inner, Frame: 1000}}, 3*16 + 1100},
		{[]api.Sym{{Name: inner, Frame: api.MaxMem}}, 3*16 + api.MaxMem},
		{[]api.Sym{{Name: inner, Frame: api.MaxMem + 1}}, 3 * 16},
		{[]api.Sym{{Name: inner, Frame: -1}}, 3 * 16},
		{[]api.Sym{{Name: inner, Frame: -1}, {Name: inner, Frame: 5}}, 3 * 16},
		{[]api.Sym{{Name: inner, Frame: 1<<63 - 1}, {Name: inner, Frame: 5}}, 3 * 16},
		{[]api.Sym{{Name: inner, Frame: 5}, {Name: inner, Frame: -1}, {Name: inner, Frame: 9}}, 3*16 + 5},
		{[]api.Sym{{Name: inner, Frame: 0}, {Name: inner, Frame: 9}}, 3 * 16},
		{[]api.Sym{{Name: inner, Kind: api.SymData, Weak: true, Frame: 5}}, 3*16 + 5},
		{[]api.Sym{{Name: inner[:len(inner)-1], Frame: 5}, {Name: "", Frame: 5}, {Name: "main", Frame: 5}, {Name: "main.m", Frame: 5}, {Name: "a.main", Frame: 5}, {Name: "main.v", Frame: 5}}, 3 * 16},
	} {
		if n := eval.Stack(texts, nil, far, c.syms); n != c.want {
			t.Errorf("13.2: %v: %d, want %d", c.syms, n, c.want)
		}
	}
	// Each name that layer 12 tells is that of a call that comes.
	for _, name := range prog.Named(texts) {
		if n := eval.Stack(texts, nil, far, []api.Sym{{Name: name, Frame: 500}}); n < 500 {
			t.Errorf("13.2: %s is no call's name", name)
		}
	}
}

// 13.2: what begins a package's vars is a call, also where there are none.
func TestStackOfBeginning(t *testing.T) {
	texts := []string{"package main; import a; func main() { }", "package a; var x int;"}
	for _, name := range []string{"main#", "a#", "main.main"} {
		if n := eval.Stack(texts, nil, 0, []api.Sym{{Name: name, Frame: 7}}); n != 23 {
			t.Errorf("13.2: %s: %d", name, n)
		}
	}
}

// 13.2: it is that of as many steps as Run makes.
func TestStackWithFuel(t *testing.T) {
	texts := []string{whole("func f(n int) { if n > 0 { f(n - 1); } } func main() { f(4); }")}
	want := []int{16, 16, 16, 16}
	for fuel := range 60 {
		n := eval.Stack(texts, nil, fuel, nil)
		if fuel < len(want) && n != want[fuel] {
			t.Errorf("13.2: with %d: %d, want %d", fuel, n, want[fuel])
		}
		// The first call of f comes behind four steps, each other one behind ten more.
		if fuel >= 4 && n != 16*min(6, 2+(fuel-4)/10) {
			t.Errorf("13.2: with %d: %d", fuel, n)
		}
	}
	if n := eval.Stack(texts, nil, -1, nil); n != 16 {
		t.Error("13.2: below 0:", n)
	}
}

// RunStack: a call comes while MaxOpen calls are open; what begins vars is one.
func TestOpen(t *testing.T) {
	const text = "type T struct { } func (t *T) m(n int) int { return f(n - 1); } func f(n int) int { if n > 0 { LAST } return 0; } "
	for _, last := range []string{"return f(n - 1);", "return func() int { return f(n - 2); }();", "return (&T{}).m(n - 1);", "g := f; return g(n - 1);"} {
		for _, c := range []struct {
			depth int
			want  string
		}{{397, "done AB"}, {398, "done AB"}, {399, "stack A"}, {400, "stack A"}} {
			deep := strconv.Itoa(c.depth)
			checkTold(t, []sample{{replaced(text, last) + "func main() { put(65); f(" + deep + "); put(66); }", c.want}})
			var want = map[string]string{"done AB": "done AB", "stack A": "stack"}[c.want]
			checkTold(t, []sample{{replaced(text, last) + "var v int = f(" + deep + "); func main() { put(65); put(66); }", want}})
		}
	}
	checkTold(t, []sample{
		{"func f() { f(); } func main() { f(); }", "stack"},
		{"func main() { main(); }", "stack"},
		{"func f(n int) { if n > 0 { f(n - 1); } } func main() { i := 0; for i < 300 { f(3); i = i + 1; } put(65); }", "done A"},
	})
}
