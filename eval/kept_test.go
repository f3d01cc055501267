package eval_test

import (
	"bytes"
	"runtime"
	"slices"
	"strconv"
	"strings"
	"sync"
	"testing"

	"mortise/api"
	"mortise/eval"
)

// R3: what is handed in stays as it is, and what is behind it is not read; what is answered is not kept.
func TestKept(t *testing.T) {
	room := []string{whole("x := get(); for x >= 0 { put(x + 1); x = get(); }"), "package a; x", "package main;"}
	in := []byte("inputs")
	syms := []api.Sym{{Name: "main.main", Frame: 5}, {Name: "main.main", Frame: 7}}
	for range 3 {
		o, _, e := eval.Run(room[:1], in[:2], far)
		n := eval.Stack(room[:1], in[:2], far, syms[:1])
		if e != api.OK || told(o) != "done jo" || n != 21 || eval.Stack(room[:1], in, far, syms[:0]) != 16 {
			t.Errorf("%d, %s, %d", e, told(o), n)
		}
		spare := o.Out[:cap(o.Out)]
		for i := range spare {
			spare[i] = 'x'
		}
		if string(in) != "inputs" || room[1] != "package a; x" || syms[0].Frame != 5 {
			t.Error("what was handed in is another")
		}
	}
}

// R5: what is answered hangs on nothing but what is handed in.
func TestAtOnce(t *testing.T) {
	type answer struct {
		told string
		most int
	}
	ask := func(round int) answer {
		m := &maker{state: uint64(round)}
		texts := m.program()
		o, cost, _ := eval.Run(texts, []byte("in"), 3000)
		return answer{counted(o, cost), eval.Stack(texts, nil, 3000, nil)}
	}
	var want [6]answer
	for i := range want {
		want[i] = ask(i)
	}
	var all sync.WaitGroup
	for first := range 8 {
		all.Go(func() {
			for i := range want {
				round := (first + i) % len(want)
				if got := ask(round); got != want[round] {
					t.Errorf("program %d: %v, want %v", round, got, want[round])
				}
			}
		})
	}
	all.Wait()
}

// taken is how many bytes of memory a run takes.
func taken(t *testing.T, text string, fuel int, kind int) uint64 {
	t.Helper()
	var ahead, behind runtime.MemStats
	runtime.ReadMemStats(&ahead)
	o, _, e := eval.Run([]string{text}, nil, fuel)
	runtime.ReadMemStats(&behind)
	if e != api.OK || o.Kind != kind {
		t.Errorf("%.80s: %d, %s", text, e, told(o))
	}
	return behind.TotalAlloc - ahead.TotalAlloc
}

// R1, R6: what a run takes hangs on its steps, not on how many variables are known, how long types are, or how deep things stand in one another.
func TestRoom(t *testing.T) {
	vars := ""
	for i := range 500 {
		vars += "a" + strconv.Itoa(i) + ":=1;"
	}
	if n := taken(t, whole("func main() { "+vars+" var l []func(); for { l = append(l, func() { a1 = 2; }); } }"), api.MaxFuel, api.RunFuel); n > 1<<30 {
		t.Errorf("literals take %d bytes", n)
	}
	if n := taken(t, whole("s := \"abcdefgh\"; for len(s) < 100000 { s = s + s; } for { t := s[1:]; }"), api.MaxFuel, api.RunFuel); n > 1<<30 {
		t.Errorf("parts of strings take %d bytes", n)
	}
	row := "func(" + strings.TrimSuffix(strings.Repeat("T,", api.MaxList), ",") + ")"
	long := "func(" + strings.TrimSuffix(strings.Repeat(row+",", api.MaxList), ",") + ")"
	if n := taken(t, whole("func f[T any](x T) "+long+" { return nil; } func main() { var x "+strings.ReplaceAll(long, "T", "int")+"; "+strings.Repeat("f(x); ", 300)+"}"), far, api.RunDone); n > 1<<28 {
		t.Errorf("long types take %d bytes", n)
	}
	deep := strings.Repeat("1+(", 38) + "f(n)" + strings.Repeat(")", 38)
	if n := taken(t, whole("func f(n int) int { return "+deep+"; } func main() { f(1); }"), far, api.RunStack); n > 1<<28 {
		t.Errorf("deep calls take %d bytes", n)
	}
}

// The longest texts are run, too.
func TestLongTexts(t *testing.T) {
	var texts []string
	for i := range api.MaxPackages - 1 {
		texts = append(texts, "package p"+strconv.Itoa(i)+"; var V int = F(); func F() int { x := 0; "+strings.Repeat("x = x + 1; ", 380)+"return x; }")
	}
	main := "package main; "
	for i := range texts {
		main += "import p" + strconv.Itoa(i) + "; "
	}
	main += "func main() { "
	for i := range texts {
		main += "put(p" + strconv.Itoa(i) + ".V - " + strconv.Itoa(300+i) + "); "
	}
	texts = slices.Insert(texts, 3, main+"}")
	o, _, e := eval.Run(texts, nil, far)
	if want := []byte{80, 79, 78, 77, 76, 75, 74}; e != api.OK || o.Kind != api.RunDone || !bytes.Equal(o.Out, want) {
		t.Errorf("%d, %s", e, told(o))
	}
}
