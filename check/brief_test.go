package check_test

import (
	"runtime"
	"strings"
	"testing"

	"mortise/api"
	"mortise/check"
)

// checkBrief holds Brief against what Check tells of a tree.
func checkBrief(t *testing.T, n api.Node, us []api.Unit) {
	t.Helper()
	u, notes, at, e := check.Check(n, us)
	for i, note := range notes {
		notes[i].Type = api.Type{Kind: note.Type.Kind, Pkg: note.Type.Pkg, Name: note.Type.Name}
	}
	briefUnit, brief, place, err := check.Brief(n, us)
	if place != at || err != e || !same(briefUnit, u) || !same(brief, notes) {
		t.Fatalf("%v: %d at %d, %v, %v; Check tells %d at %d, %v, %v", n, err, place, briefUnit, brief, e, at, u, notes)
	}
}

// Brief is Check but for what its types are made of.
func TestBrief(t *testing.T) {
	us := units(t)
	ends := map[bool]int{}
	for round := range 300 {
		n := tree(t, madeText(us, 8000+round))
		if round%3 > 0 {
			m := &maker{state: uint64(round)}
			m.turn(&n)
		}
		checkBrief(t, n, us)
		_, _, _, e := check.Brief(n, us)
		ends[e == api.OK]++
	}
	if ends[true] < 90 || ends[false] < 90 {
		t.Errorf("how they ended: %v", ends)
	}
	for _, s := range uses() {
		checkBrief(t, tree(t, s), us)
	}
	checkBrief(t, api.Node{Kind: api.NFile, Text: "a", At: 5, N: 1}, us)
}

// Brief takes little memory, where types are much longer than the text in which they come up.
func TestBriefOfLongTypes(t *testing.T) {
	row := "func(" + strings.TrimSuffix(strings.Repeat("T,", api.MaxList), ",") + ")"
	long := "func(" + strings.TrimSuffix(strings.Repeat(row+",", api.MaxList), ",") + ")"
	n := tree(t, "package a; func f[T any](x T) "+long+" { return nil; } func g(x "+sized(200)+") { "+strings.Repeat("f(x); ", 300)+"}")
	var ahead, behind runtime.MemStats
	runtime.ReadMemStats(&ahead)
	_, notes, _, e := check.Brief(n, nil)
	runtime.ReadMemStats(&behind)
	if taken := behind.TotalAlloc - ahead.TotalAlloc; e != api.OK || len(notes) != 900+1 || taken > 1<<26 {
		t.Errorf("%d, %d notes, %d bytes of memory", e, len(notes), taken)
	}
}
