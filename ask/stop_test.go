package ask_test

import (
	"slices"
	"strings"
	"testing"

	"mortise/api"
	"mortise/ask"
)

func play(t *testing.T, text, asks string, answers []int64, fuel int) string {
	t.Helper()
	events, err := ask.Play("package p; "+text, others(), asked(asks), answers, fuel)
	if err != api.OK {
		t.Fatalf("%s: %d", text, err)
	}
	return told(events)
}

// 14.1: where no answer is left it stops, behind the call.
func TestNoAnswer(t *testing.T) {
	checkPlays(t, []sample{
		{"import q; func F() int { return q.G(1) + q.G(2); }", "F;F", []int64{10}, "?q.G(1) ?q.G(2) ."},
		{"import q; var x int = q.G(1); func F() { }", "F", nil, "?q.G(1) ."},
		{"import q; func F() { q.H(); } func K() { }", "K;F;K", nil, "K ?q.H() ."},
		{"import q; func F() { q.N(); q.P(1, 2); q.N(); q.H(); q.N(); q.H(); q.N(); }", "F", []int64{1}, "?q.N() ?q.P(1,2) ?q.N() ?q.H() ?q.N() ?q.H() ."},
		{"import q; func F() { f := q.N; f(); }", "F;F", nil, "?q.N() F ?q.N() F"},
		{"import q; func F() int { return q.G(1 / 0); }", "F", nil, "!3"},
		{"func F() int { return 1; }", "F", []int64{1, 2, 3}, "F=1"},
	})
}

// withFuel holds what a package does with each fuel against what it does with enough: each event comes when so many steps are there, and the end does.
func withFuel(t *testing.T, text, asks string, answers []int64, at []int, end int) {
	t.Helper()
	whole := strings.Fields(play(t, text, asks, answers, far))
	if len(whole) != len(at) {
		t.Fatalf("%s: %q", text, whole)
	}
	for fuel := -1; fuel < end+10; fuel++ {
		want := whole
		if max(fuel, 0) < end {
			come := slices.IndexFunc(at, func(steps int) bool { return steps > max(fuel, 0) })
			if come < 0 {
				come = len(at)
			}
			want = append(slices.Clone(whole[:come]), ".")
		}
		if got := play(t, text, asks, answers, fuel); got != strings.Join(want, " ") {
			t.Errorf("14.1, 14.3: %s with %d: %s, want %s", text, fuel, got, strings.Join(want, " "))
		}
	}
}

// 14.1, 14.3: one row of steps; with more of them the events are the same, but for a stop.
func TestSteps(t *testing.T) {
	withFuel(t, "func F() { }", "F;F", nil, []int{0, 0}, 0)
	withFuel(t, "func F() int { return 3; }", "F;F;F", nil, []int{2, 4, 6}, 6)
	withFuel(t, "import q; func F(x int) int { return q.G(x) + 1; }", "F(4);F(5)", []int64{6, 7}, []int{5, 6, 11, 12}, 12)
	withFuel(t, "import q; var v int = q.G(1) + q.H(); var w int; func F() { q.N(); }", "F;F", []int64{6, 7}, []int{4, 6, 9, 9, 12, 12}, 12)
	withFuel(t, "import q; func F() { f := q.P; f(1, q.C); }", "F", nil, []int{7, 7}, 7)
	withFuel(t, "import q; func F() { if q.H() == 1 { panic(2); } }", "F;F;F", []int64{0, 1}, []int{4, 5, 9, 13}, 13)
	withFuel(t, "import q; var s string = \"abc\"; func F(x int) { s = s + s; q.G(len(make([]int, x))); }", "F(5);F(1)", []int64{0, 1}, []int{22, 22, 45, 45}, 45)
	withFuel(t, "import q; func f(n int) { if n > 0 { f(n - 1); } else { q.N(); } } func F(n int) { f(n); }", "F(2);F(0)", nil, []int{31, 31, 42, 42}, 42)
}

// 14.1: fuel below 0 is none, fuel above MaxFuel is that.
func TestGreatFuel(t *testing.T) {
	const text = "import q; func F() { for { q.N(); } }"
	for _, fuel := range []int{api.MaxFuel, api.MaxFuel + 1, 1<<63 - 1} {
		events, err := ask.Play("package p; "+text, others(), asked("F"), nil, fuel)
		if err != api.OK || len(events) != (api.MaxFuel-1)/4+1 || told(events[len(events)-2:]) != "?q.N() ." {
			t.Errorf("14.1: with %d: %d, %d events", fuel, err, len(events))
		}
	}
	for _, fuel := range []int{0, -1, -1 << 63} {
		if got := play(t, text, "F", nil, fuel); got != "." {
			t.Errorf("14.1: with %d: %s", fuel, got)
		}
		if got := play(t, "var x int; func F() { }", "F", nil, fuel); got != "F" {
			t.Errorf("14.1: with %d: %s", fuel, got)
		}
	}
}

// 14.1: a call comes while MaxOpen are open: a question, too; what begins vars is one.
func TestOpen(t *testing.T) {
	const text = "import q; type T struct { f func(int) int; } func (t *T) m(n int) int { return f(n - 1); } func f(n int) int { if n > 0 { NEXT } LAST } func F(n int) int { return f(n); } func G(n int) int { return F(n); } func H(n int) int { return G(n); } "
	for _, next := range []string{"return f(n - 1);", "return func() int { return f(n - 2); }();", "return (&T{}).m(n - 1);", "g := f; return g(n - 1);"} {
		for _, last := range []string{"return q.G(n);", "g := q.G; return g(n);", "return (&T{f: q.G}).f(0);", "return func() int { return 9; }() - q.G(0);", "q.N(); return 0;"} {
			replaced := strings.NewReplacer("NEXT", next, "LAST", last).Replace(text)
			// Of f(396) come 397 calls, and the question.
			for _, c := range []struct {
				ask  string
				full bool
			}{{"F(394)", false}, {"F(396)", false}, {"G(396)", false}, {"H(396)", true}, {"F(398)", true}, {"F(400)", true}} {
				checkOpen(t, replaced, c.ask, c.full)
			}
			for first, full := range map[string]bool{"f(396)": false, "F(396)": false, "G(396)": true, "H(394)": false, "f(398)": true} {
				checkOpen(t, replaced+"var v int = "+first+";", "F(0)", full)
			}
		}
	}
}

// checkOpen wants a stop alone, where the calls are full ahead of the first question, else that and all else.
func checkOpen(t *testing.T, text, asks string, full bool) {
	t.Helper()
	got := play(t, text, asks, []int64{0, 0}, 1000000)
	asked := strings.HasPrefix(got, "?q.") && strings.Contains(got, ") "+asks[:1]) && !strings.HasSuffix(got, ".")
	if full != (got == ".") || full == asked {
		t.Errorf("14.1: %s asked %s: %s", text, asks, got)
	}
}

// 14.1: calls that are over are not open any more, those of questions neither.
func TestNotOpen(t *testing.T) {
	checkPlays(t, []sample{
		{"import q; func F() { i := 0; for i < 1000 { f(); i = i + 1; } q.N(); } func f() { }", "F", nil, "?q.N() F"},
		{"func F() { F(); }", "F;F", nil, "."},
		{"import q; func F() { q.N(); F(); }", "F", nil, strings.Repeat("?q.N() ", 399) + "."},
	})
	events, err := ask.Play("package p; import q; func F() { i := 0; for i < 1000 { q.N(); i = i + 1; } }", others(), asked("F"), nil, far)
	if err != api.OK || len(events) != 1001 || events[1000].Kind != api.EventAnswer {
		t.Error("14.1: a thousand questions:", err, len(events))
	}
	all := slices.Repeat(asked("F"), 1000)
	events, err = ask.Play("package p; func F() { }", nil, all, nil, 0)
	if err != api.OK || len(events) != 1000 || slices.ContainsFunc(events, func(e api.Event) bool { return e.Kind != api.EventAnswer }) {
		t.Error("14.1: a thousand asks:", err, len(events))
	}
}
