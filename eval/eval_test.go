package eval_test

import (
	"slices"
	"strconv"
	"strings"
	"testing"

	"mortise/api"
	"mortise/eval"
	"mortise/prog"
)

// far is more fuel than the runs of these tests take that come to an end.
const far = 1 << 20

// told is how a run ended, and what it wrote.
func told(o api.Outcome) string {
	s := []string{"fuel", "done", "panic " + strconv.Itoa(o.Code), "memory", "stack", "fault"}[o.Kind]
	if o.Kind != api.RunPanic && o.Code != 0 {
		s += "?"
	}
	if len(o.Out) > 0 {
		s += " " + string(o.Out)
	}
	return s
}

// counted is how a run ended, what it wrote, its steps and its cost.
func counted(o api.Outcome, cost int) string {
	return told(o) + ", " + strconv.Itoa(o.Steps) + " steps, cost " + strconv.Itoa(cost)
}

// whole is a text of package main: of statements alone those of its function main.
func whole(s string) string {
	if !strings.Contains(s, "func main()") {
		s = "func main() { " + s + " }"
	}
	return "package main; " + s
}

// case is a program, and what is told of its run.
type sample struct{ text, want string }

// checkTold holds runs of programs, with the input "in", against how they end and what they write.
func checkTold(t *testing.T, samples []sample) {
	t.Helper()
	for _, c := range samples {
		o, _, e := eval.Run([]string{whole(c.text)}, []byte("in"), far)
		if got := told(o); e != api.OK || got != c.want {
			t.Errorf("%s\n%d, %s, want %s", c.text, e, got, c.want)
		}
		checkFuels(t, []string{whole(c.text)}, "in")
	}
}

// counts is a program, the steps of its run, and its cost.
type counts struct {
	text        string
	steps, cost int
}

// checkCounts holds runs that come to their end against steps and cost.
func checkCounts(t *testing.T, samples []counts, others ...string) {
	t.Helper()
	for _, c := range samples {
		texts := append([]string{whole(c.text)}, others...)
		o, cost, e := eval.Run(texts, nil, far)
		if e != api.OK || o.Kind != api.RunDone || o.Steps != c.steps || cost != c.cost {
			t.Errorf("%s\n%d, %s, want %d steps, cost %d", c.text, e, counted(o, cost), c.steps, c.cost)
		}
		checkFuels(t, texts, "")
	}
}

// checkFuels holds the runs of a program with less fuel against the whole one (13.3).
func checkFuels(t *testing.T, texts []string, in string) {
	t.Helper()
	whole, all, _ := eval.Run(texts, []byte(in), far)
	fuels := []int{whole.Steps, whole.Steps + 1}
	for i := range min(whole.Steps, 12) {
		fuels = append(fuels, i, whole.Steps-1-i, i*whole.Steps/12)
	}
	slices.Sort(fuels)
	least, begun := 0, ""
	for _, fuel := range fuels {
		o, cost, e := eval.Run(texts, []byte(in), fuel)
		right := e == api.OK && o.Steps == min(fuel, whole.Steps) && cost >= least && cost <= all && strings.HasPrefix(string(o.Out), begun) && strings.HasPrefix(string(whole.Out), string(o.Out))
		if fuel < whole.Steps {
			right = right && o.Kind == api.RunFuel && o.Code == 0
		} else {
			right = right && counted(o, cost) == counted(whole, all)
		}
		if !right {
			t.Errorf("13.3: %s\nwith %d: %d, %s; ahead of it cost %d; the whole: %s", texts, fuel, e, counted(o, cost), least, counted(whole, all))
		}
		least, begun = cost, string(o.Out)
	}
}

// The chapter's examples.
func TestExamples(t *testing.T) {
	o, cost, e := eval.Run([]string{"package main; func main() { put(65); }"}, nil, 100)
	if got := counted(o, cost); e != api.OK || got != "done A, 3 steps, cost 0" {
		t.Error(e, got)
	}
	checkTold(t, []sample{{"func main() { var s []int; s[0] = 1; }", "panic 2"}})
}

// 13.1: of what is no program Load's error, and nothing else; ahead of it ErrArg.
func TestErrors(t *testing.T) {
	main := "package main; func main() { put(65); }"
	for _, texts := range [][]string{
		nil, {""}, {"package main;"}, {"package main; func main() { "}, {main, main}, {main, "package a; import b;"}, {main, "package a; import b;", "package b; import a;"},
		{main, "package a; var x int = x;"}, {main, "package a; var x int = y;"}, {main, "package a; var x bool = 1;"}, {main, "package a; var x int; var x int;"},
		{"package main; func main(x int) { }"}, {main, strings.Repeat(" ", api.MaxText+1)}, {main, "package a; var x int = " + strings.Repeat("(", api.MaxDeep+1)},
		{main, "package b;", "package c;", "package d;", "package e;", "package f;", "package g;", "package h;", "package i;"},
	} {
		_, _, _, want := prog.Load(texts)
		o, cost, e := eval.Run(texts, []byte("in"), far)
		if e != want || want == api.OK || told(o) != "fuel" || o.Steps != 0 || cost != 0 {
			t.Errorf("13.1: %q: %d, %s, want %d", texts, e, counted(o, cost), want)
		}
		if n := eval.Stack(texts, nil, far, []api.Sym{{Name: "main.main", Frame: 5}}); n != 0 {
			t.Errorf("13.2: %q: %d", texts, n)
		}
		long := make([]byte, api.MaxIn+1)
		o, cost, e = eval.Run(texts, long, far)
		if e != api.ErrArg || counted(o, cost) != "fuel, 0 steps, cost 0" {
			t.Errorf("13.1: %q with too long an input: %d, %s", texts, e, counted(o, cost))
		}
	}
	long := make([]byte, api.MaxIn+1)
	if o, cost, e := eval.Run([]string{main}, long, far); e != api.ErrArg || counted(o, cost) != "fuel, 0 steps, cost 0" || eval.Stack([]string{main}, long, far, nil) != 0 {
		t.Error("13.1: of a program with too long an input:", e, counted(o, cost))
	}
	if o, cost, e := eval.Run([]string{main}, long[1:], far); e != api.OK || counted(o, cost) != "done A, 3 steps, cost 0" || eval.Stack([]string{main}, long[1:], far, nil) != 16 {
		t.Error("13.1: of a program with the longest input:", e, counted(o, cost))
	}
}

// 13.1: how much fuel a run has.
func TestFuel(t *testing.T) {
	for _, c := range []struct {
		text string
		fuel int
		want string
	}{
		{"put(65); put(66);", 7, "done AB, 6 steps, cost 0"},
		{"put(65); put(66);", 6, "done AB, 6 steps, cost 0"},
		{"put(65); put(66);", 5, "fuel A, 5 steps, cost 0"},
		{"put(65); put(66);", 3, "fuel A, 3 steps, cost 0"},
		{"put(65); put(66);", 2, "fuel, 2 steps, cost 0"},
		{"put(65); put(66);", 0, "fuel, 0 steps, cost 0"},
		{"put(65); put(66);", -1, "fuel, 0 steps, cost 0"},
		{"put(65); put(66);", -1 << 63, "fuel, 0 steps, cost 0"},
		{"", 0, "done, 0 steps, cost 0"},
		{"", -7, "done, 0 steps, cost 0"},
		{"panic(2);", 3, "panic 258, 3 steps, cost 0"},
		{"panic(2);", 2, "fuel, 2 steps, cost 0"},
		{"for { }", 1000, "fuel, 1000 steps, cost 0"},
		{"for { }", api.MaxFuel, "fuel, 4194304 steps, cost 0"},
		{"for { }", api.MaxFuel + 1, "fuel, 4194304 steps, cost 0"},
		{"for { }", 1<<63 - 1, "fuel, 4194304 steps, cost 0"},
		// Where fewer are left than are taken all are spent, and what they were for has no cost.
		{"x := \"ab\" + \"cde\";", 9, "done, 9 steps, cost 11"},
		{"x := \"ab\" + \"cde\";", 8, "fuel, 8 steps, cost 0"},
		{"x := \"ab\" + \"cde\";", 4, "fuel, 4 steps, cost 0"},
		{"x := \"ab\" + \"\" == \"ab\";", 9, "fuel, 9 steps, cost 6"},
		{"x := make([]int, 500);", 503, "done, 503 steps, cost 508"},
		{"x := make([]int, 500);", 502, "fuel, 502 steps, cost 0"},
		{"x := make([]int, 500);", 100, "fuel, 100 steps, cost 0"},
		{"x := append([]int{}, 1);", 8, "done, 8 steps, cost 18"},
		{"x := append([]int{}, 1);", 7, "fuel, 7 steps, cost 6"},
		{"x := append([]int{}, 1);", 5, "fuel, 5 steps, cost 6"},
	} {
		o, cost, e := eval.Run([]string{whole(c.text)}, nil, c.fuel)
		if got := counted(o, cost); e != api.OK || got != c.want {
			t.Errorf("13.1: %s with %d: %d, %s, want %s", c.text, c.fuel, e, got, c.want)
		}
	}
}

// What is asked of make comes ahead of its steps.
func TestMakeAhead(t *testing.T) {
	for _, c := range []struct{ text, want string }{
		{"put(len(make([]int, -1)));", "panic 6, 6 steps, cost 0"},
		{"put(len(make([]int, 1000001)));", "panic 6, 5 steps, cost 0"},
		{"put(len(make([]int, 1000000)));", "fuel, 6 steps, cost 0"},
	} {
		o, cost, _ := eval.Run([]string{whole(c.text)}, nil, 6)
		if got := counted(o, cost); got != c.want {
			t.Errorf("%s: %s, want %s", c.text, got, c.want)
		}
	}
}

// get and put, at their limits.
func TestInAndOut(t *testing.T) {
	echo := whole("x := get(); for x >= 0 { put(x); x = get(); } put(x); put(get());")
	in := make([]byte, api.MaxIn)
	for i := range in {
		in[i] = byte(i * 7)
	}
	for _, length := range []int{0, 1, 2, 300, api.MaxIn} {
		o, _, _ := eval.Run([]string{echo}, in[:length:length], api.MaxFuel)
		want := append(slices.Clone(in[:length]), 255, 255)
		want = want[:min(len(want), api.MaxOut)]
		if o.Kind != api.RunDone || !slices.Equal(o.Out, want) {
			t.Errorf("%d bytes: %d, %d bytes come out", length, o.Kind, len(o.Out))
		}
	}
	o, _, _ := eval.Run([]string{whole("put(300); put(-1); put(65 - 256); put(9223372036854775807);")}, nil, far)
	if want := []byte{44, 255, 65, 255}; !slices.Equal(o.Out, want) {
		t.Error("the lowest eight bits:", o.Out)
	}
	o, _, _ = eval.Run([]string{whole("i := 0; for i < 5000 { put(i / 100); i = i + 1; } panic(1);")}, nil, far)
	if len(o.Out) != api.MaxOut || o.Out[api.MaxOut-1] != 40 || told(api.Outcome{Kind: o.Kind, Code: o.Code}) != "panic 257" {
		t.Error("behind MaxOut:", len(o.Out), o.Kind)
	}
}
