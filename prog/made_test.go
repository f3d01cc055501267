package prog_test

import (
	"slices"
	"strconv"
	"strings"
	"testing"

	"mortise/api"
	"mortise/export"
	"mortise/graph"
	"mortise/lex"
	"mortise/prog"
)

// declsOf are the names that a unit declares, those of methods behind their structs'.
func declsOf(u api.Unit) []string {
	var names []string
	for _, d := range u.Decls {
		if d.Kind == api.DMethod {
			names = append(names, d.Of+"."+d.Name)
		} else {
			names = append(names, d.Name)
		}
	}
	return names
}

// checkUnits holds the units of a made program against how it was made, and against what layer 10 tells of each text alone.
func checkUnits(t *testing.T, m *maker, order []int, us []api.Unit) {
	t.Helper()
	var names []string
	var needs [][]string
	for _, p := range m.packs {
		names, needs = append(names, p.name), append(needs, p.imports)
	}
	for k, i := range order {
		p, u := m.packs[i], us[k]
		if u.Pkg != p.name || !slices.Equal(declsOf(u), p.decls) || len(u.Imports) != len(p.imports) || len(u.Bodies) > 0 {
			t.Fatalf("12.1: %s: %v", p.text, u)
		}
		for j, imported := range u.Imports {
			at := slices.Index(order, m.find(p.imports[j]))
			if imported.Name != p.imports[j] || imported.Hash != export.Hash(us[at]) {
				t.Fatalf("12.1: %s: import %v", p.text, imported)
			}
		}
		var below []api.Unit
		for _, need := range graph.Below(names, needs, i) {
			if need != i {
				below = append(below, us[slices.Index(order, need)])
			}
		}
		if !same(u, unitAlone(t, p.text, below)) {
			t.Fatalf("12.1: %s: %v, alone it is another one", p.text, u)
		}
	}
}

// checkMade holds what is answered of a made program against how it was made.
func checkMade(t *testing.T, m *maker) api.Errno {
	t.Helper()
	texts := m.texts()
	order, us, at, e := prog.Load(texts)
	wantOrder, wantAt, want := m.want()
	if !slices.Equal(order, wantOrder) || at != wantAt || e != want || len(us) != len(order) {
		t.Fatalf("12.1: %q: %v, %d in %d, %d units, want %v, %d in %d", texts, order, e, at, len(us), wantOrder, want, wantAt)
	}
	names := prog.Named(texts)
	if e != api.OK {
		if len(names) > 0 {
			t.Fatalf("12.2: %q: %q", texts, names)
		}
		return e
	}
	checkUnits(t, m, order, us)
	if want := m.named(order); !slices.Equal(names, want) {
		t.Fatalf("12.2: %q: %q, want %q", texts, names, want)
	}
	return e
}

// 12.1, 12.2: made programs, some with faults.
func TestMadePrograms(t *testing.T) {
	ends := map[api.Errno]int{}
	packs := map[int]int{}
	for round := range 1200 {
		m := &maker{state: uint64(round)}
		m.make()
		e := checkMade(t, m)
		ends[e]++
		if e == api.OK {
			packs[len(m.packs)]++
		}
	}
	for _, e := range []api.Errno{api.ErrText, api.ErrLong, api.ErrDeep, api.ErrLimit, api.ErrTwice, api.ErrName, api.ErrCycle, api.ErrType} {
		if ends[e] < 5 {
			t.Errorf("error %d: %d times", e, ends[e])
		}
	}
	for n := 1; n <= api.MaxPackages; n++ {
		if packs[n] < 15 {
			t.Errorf("programs of %d packages: %d times", n, packs[n])
		}
	}
}

// shuffled is a made program with its texts in another order, and the numbers that they had.
func (m *maker) shuffled() (*maker, []int) {
	turned := &maker{}
	was := m.mixed(len(m.packs))
	for _, i := range was {
		turned.packs = append(turned.packs, m.packs[i])
	}
	return turned, was
}

// 12.3: whether they are taken does not hang on the order of the texts; what comes out is alike then.
func TestShuffled(t *testing.T) {
	taken := 0
	for round := range 250 {
		m := &maker{state: uint64(round) + 1<<40}
		m.make()
		order, us, _, e := prog.Load(m.texts())
		for range 2 {
			turned, was := m.shuffled()
			turnedOrder, turnedUnits, _, turnedErr := prog.Load(turned.texts())
			checkMade(t, turned)
			if (turnedErr == api.OK) != (e == api.OK) || !same(us, turnedUnits) {
				t.Fatalf("12.3: %q: %d, and %d in another order", m.texts(), e, turnedErr)
			}
			for k := range turnedOrder {
				turnedOrder[k] = was[turnedOrder[k]]
			}
			if !slices.Equal(order, turnedOrder) || !slices.Equal(prog.Named(m.texts()), prog.Named(turned.texts())) {
				t.Fatalf("12.3: %q: %v, and %v in another order", m.texts(), order, turnedOrder)
			}
		}
		taken += len(order)
	}
	if taken < 250 {
		t.Error("too few were taken:", taken)
	}
}

// respaced is a text with other blanks and remarks between its tokens, and the new place of each token by its old one.
func (m *maker) respaced(text string) (string, map[int]int, bool) {
	tokens, _, e := lex.Lex(text)
	if e != api.OK {
		return "", nil, false
	}
	places := map[int]int{}
	made := ""
	for i, token := range tokens[:len(tokens)-1] {
		made += pick(m, " ", " ", "\t", "\r\n", "//\n", "  ", " // func ; \" }\n")
		places[token.At] = len(made)
		made += strings.TrimRight(text[token.At:tokens[i+1].At], " ")
	}
	made += pick(m, "", " ", "\n", "// the end")
	return made, places, len(made) <= api.MaxText
}

// 12.3: what is taken does not hang on blanks and remarks; what comes out is alike, but for the places of literals.
func TestRespaced(t *testing.T) {
	seen := map[bool]int{}
	for round := range 300 {
		m := &maker{state: uint64(round) + 1<<41}
		m.make()
		turned := &maker{}
		for _, p := range m.packs {
			text, places, ok := m.respaced(p.text)
			if !ok {
				text = p.text
			}
			now := *p
			now.text, now.literals = text, slices.Clone(p.literals)
			for i, at := range p.literals {
				if ok {
					now.literals[i] = places[at]
				}
			}
			turned.packs = append(turned.packs, &now)
		}
		checkMade(t, turned)
		order, us, at, e := prog.Load(m.texts())
		turnedOrder, turnedUnits, turnedAt, turnedErr := prog.Load(turned.texts())
		if !slices.Equal(order, turnedOrder) || !same(us, turnedUnits) || at != turnedAt || e != turnedErr {
			t.Fatalf("12.3: %q: %v, %d in %d; with other blanks %v, %d in %d", m.texts(), order, e, at, turnedOrder, turnedErr, turnedAt)
		}
		seen[e == api.OK]++
	}
	if seen[true] < 75 || seen[false] < 75 {
		t.Errorf("how they were: %v", seen)
	}
}

// 12.1: a program as great as texts may be: eight packages, each imported by all behind it.
func TestGreat(t *testing.T) {
	var texts []string
	for i := range api.MaxPackages {
		text := "package " + []string{"a", "b", "c", "d", "e", "f", "g", "main"}[i] + ";"
		for k := range i {
			text += "import " + string(rune('a'+k)) + ";"
		}
		for k := range i {
			text += "func o" + strconv.Itoa(k) + "() int { return " + string(rune('a'+k)) + ".F(1); }"
		}
		text += "func main() { } func F(x int) int { return x; } func long() { x := F(1);"
		for n := 0; n < 370; n++ {
			text += "x = F(x) + 1;"
		}
		texts = append([]string{text + "}"}, texts...)
	}
	checkTold(t, []told{{"[7 6 5 4 3 2 1 0]", texts}})
	if names := prog.Named(texts); len(names) != 8*4+7*8/2 {
		t.Error(len(names), names)
	}
}
