package check_test

import (
	"cmp"
	"math"
	"reflect"
	"slices"
	"strings"
	"testing"
	"unsafe"

	"mortise/api"
	"mortise/check"
	"mortise/kinds"
)

// marked holds the notes of a text against those that stand in it, each between two #, right ahead of a node's token.
func marked(t *testing.T, us []api.Unit, s string) {
	t.Helper()
	text, want := "", []api.Note{}
	var types []string
	for s != "" {
		ahead, behind, ok := strings.Cut(s, "#")
		text += ahead
		s = behind
		if ok {
			of, rest, _ := strings.Cut(behind, "#")
			want = append(want, api.Note{At: len(text)})
			types = append(types, of)
			s = rest
		}
	}
	_, notes, at, e := check.Check(tree(t, text), us)
	if e != api.OK || len(notes) != len(want) {
		t.Fatalf("%q: %d at %d, %s", text, e, at, tell(notes))
	}
	for i, n := range notes {
		if n.At != want[i].At || kinds.Text(n.Type) != types[i] {
			t.Errorf("%q: %d %s, want %d %s", text, n.At, kinds.Text(n.Type), want[i].At, types[i])
		}
	}
	checkTree(t, tree(t, text), us)
}

// 10.3: the notes of all kinds of expressions; each stands ahead of its token.
func TestNotes(t *testing.T) {
	us := units(t)
	for _, s := range []string{
		"package a; var x int; const c = 1; type T struct { a int; } type I interface { } func f() { }",
		"package a; var x int = #int#1; var y string = #string#\"a\"; var z bool = #bool#true; var v []int = #nil#nil;",
		"package a; var x int = #int#1 #int#+ #int#2 #int#* (#int#-#int#3); var y bool = #bool#! #bool#false #bool#|| #int#1 #bool#< #int#2 #bool#&& #nil#nil #bool#== #func()#f; func f() { }",
		"package a; const c = 1; var x int = #int#c; var y int = #int#x; func f(n int) func(int) int { #int#x = #int#n; m := #int#n; return #func(int) int#func(m int) int { return #int#m #int#+ #int#c; }; } var z int = #func(int) func(int) int#f#func(int) int#(#int#1)#int#(#int#2);",
		"package a; import q; func f(x q.I) { q#int#.V = q#int#.C; y := q#func(int) *q.T#.F#*q.T#(#int#1); #*q.T#y#int#.A = #*q.T#y#func(int) int#.M#int#(#q.I#x#func(int) int#.M#int#(#int#2)); z := #q.I#x#*q.T#.(*q.T); w := #q.I#x#q.E#.(q.E); }",
		"package a; import q; type T struct { a int; b q.I; c func(); } func (t *T) m(x int) { } var x *T = #*a.T#&T{b: #nil#nil, a: #int#1, c: #func()#func() { put#none#(#int#1); }}; var y func(*T, int) = #func(*a.T, int)#(*T).m; var z func(*q.T, int) int = #func(*q.T, int) int#(*q.T).M;",
		"package a; var x [][]int = #[][]int#[][]int{#[]int#[]int{#int#1, #int#2}, #nil#nil}; var y int = #[][]int#x#[]int#[#int#0]#int#[#int#1]; var z []int = #[][]int#x#[]int#[#int#0]#[]int#[:]#[]int#[#int#1:]#[]int#[:#int#2]#[]int#[#int#0:#int#1]; var w int = #string#\"abc\"#string#[#int#1:]#int#[#int#0];",
		"package a; var x int = len#int#(#string#\"\") #int#+ get#int#(); var y []int = append#[]int#(make#[]int#([]int, #int#1), #int#2); func f() { put#none#(#int#1); panic#none#(#int#x); #func()#f#none#(); }",
		"package a; func f() { for #bool#true { if #int#1 #bool#== #int#2 { return; } else if #bool#false { break; } } { var x int = #int#1; #int#x = #int#x; } var y int; x := #bool#true; }",
		"package a; import q; func id[A any](x A) A { return #A#x; } func two[A any, B comparable](f func(A) B, l []A) B { return #func(A) B#f#B#(#[]A#l#A#[#int#0]); } func f[A q.I](x A) { y := #func(A) A#id#A#(#A#x); z := #func([]int) []int#id#[]int#(#[]int#[]int{}); w := #func(func(int) bool, []int) bool#two#bool#(#func(int) bool#func(n int) bool { return #bool#true; }, #nil#nil); v := q#func(int) int#.G#int#(#func(int) int#id#int#(#int#1)); u := q#func(A) []A#.H#[]A#(#A#y); n := #A#x#func(int) int#.M#int#(#int#1); }",
		"package a; func id[A any](x A) A { return #A#x; } func f(id func(int) bool) { x := #func(int) bool#id#bool#(#int#1); } func g[A any, B any](x A, y B) { #func(B, A)#g#none#(#B#y, #A#x); #func([]int, B)#g#none#(#[]int#[]int{}, #B#y); }",
		"package a; import q; func f(q *q.T) int { return #*q.T#q#int#.A; }",
		"package a; type I interface { m(); } type T struct { } func (t *T) m() { #*a.T#t = #nil#nil; } func f(i I) I { #a.I#i = #*a.T#&T{}; #func(a.I) a.I#f#a.I#(#nil#nil); return #*a.T#&T{}; }",
	} {
		marked(t, us, s)
	}
}

// 10.3: by rising places, and of one place as they stand in the tree, whatever places a tree's nodes have.
func TestPlaces(t *testing.T) {
	us := units(t)
	s := "package a; import q; func f() int { x := q.F(len(\"a\") + 2 * 3).A; q.V = -x; return []int{x, q.G(x)}[get()]; } var y func(int) bool = func(n int) bool { return n == 1; };"
	n := tree(t, s)
	_, inText, _, _ := check.Check(n, us)
	for name, place := range map[string]func(i, at int) int{
		"all one":    func(i, at int) int { return 7 },
		"nought":     func(i, at int) int { return 0 },
		"falling":    func(i, at int) int { return -at },
		"as in tree": func(i, at int) int { return i },
		"few":        func(i, at int) int { return at * 7 % 5 },
		"far":        func(i, at int) int { return []int{math.MaxInt, math.MinInt, 0, -1, 1}[i%5] },
	} {
		turned := copied(&n)
		i := 0
		eachNode(turned, func(n *api.Node) { n.At = place(i, n.At); i++ })
		checkTree(t, *turned, us)
		_, notes, at, e := check.Check(*turned, us)
		if e != api.OK || at != 0 || len(notes) != len(inText) {
			t.Errorf("%s: %d at %d, %d notes", name, e, at, len(notes))
		}
		if !slices.IsSortedFunc(notes, func(a, b api.Note) int { return map[bool]int{true: 1}[a.At > b.At] }) {
			t.Errorf("%s: %s", name, tell(notes))
		}
	}
	turned := copied(&n)
	eachNode(turned, func(n *api.Node) { n.At = 1 })
	_, notes, _, _ := check.Check(*turned, us)
	if told, want := tell(notes), "1 int; 1 *q.T; 1 func(int) *q.T; 1 int; 1 int; 1 string; 1 int; 1 int; 1 int; 1 int; 1 int; 1 int; 1 int; 1 []int; 1 int; 1 int; 1 func(int) int; 1 int; 1 int; 1 func(int) bool; 1 bool; 1 int; 1 int;"; told != want {
		t.Errorf("of one place: %s, want %s", told, want)
	}
}

// 10.1: trees that have no text are refused ahead of all.
func TestForm(t *testing.T) {
	us := units(t)
	wrong := api.Node{Kind: api.NVar, Text: "x", Kids: []api.Node{{Kind: api.NTypeName, Text: "nope"}}}
	file := func(kids ...api.Node) api.Node {
		return api.Node{Kind: api.NFile, Text: "a", At: 5, Kids: append([]api.Node{wrong}, kids...)}
	}
	deep := api.Node{Kind: api.NTypeName, Text: "int"}
	for range api.MaxDepth {
		deep = api.Node{Kind: api.NSliceOf, Kids: []api.Node{deep}}
	}
	var many []api.Node
	for range api.MaxNodes / 2 {
		many = append(many, api.Node{Kind: api.NVar, Text: "x", Kids: []api.Node{{Kind: api.NTypeName, Text: "int"}}})
	}
	var long []api.Node
	for range 90 {
		long = append(long, api.Node{Kind: api.NVar, Text: "x", Kids: []api.Node{{Kind: api.NTypeName, Text: "string"}, {Kind: api.NText, Text: strings.Repeat("a", 90)}}})
	}
	for _, n := range []api.Node{{}, {Kind: api.NFile}, {Kind: api.NFile, Text: "1"}, {Kind: api.NFile, Text: "func"}, {Kind: api.NInt}, {Kind: -1}, {Kind: api.NFile, Text: "a", N: 1}, {Kind: api.NFile, Text: "a", Kids: []api.Node{{}}},
		file(api.Node{Kind: api.NImport, Text: "q"}), file(api.Node{Kind: api.NVar, Text: "y"}), file(api.Node{Kind: api.NVar, Text: "y", Kids: []api.Node{deep}}), file(many...), file(long...), file(api.Node{Kind: api.NFunc, Text: "f"}), file(api.Node{Kind: api.NConst, Text: "c", N: math.MinInt64}), file(api.Node{Kind: api.NMethod, Text: "m", Kids: []api.Node{{Kind: api.NBlock}}})} {
		if e := checkTree(t, n, us); e != api.ErrForm {
			t.Errorf("of %d, %q: %d", n.Kind, n.Text, e)
		}
		if _, _, at, _ := check.Check(n, us); at != n.At {
			t.Errorf("of %d, %q: at %d", n.Kind, n.Text, at)
		}
	}
	if _, _, _, e := check.Check(file(), us); e != api.ErrName {
		t.Errorf("of a name that means nothing: %d", e)
	}
}

// roomy is a thing in memory of its own, of which each list has junk behind its length.
func roomy(v reflect.Value) reflect.Value {
	made := reflect.New(v.Type()).Elem()
	switch v.Kind() {
	case reflect.Slice:
		made.Set(reflect.MakeSlice(v.Type(), v.Len()+2, v.Len()+2))
		for i := range v.Len() + 2 {
			if i < v.Len() {
				made.Index(i).Set(roomy(v.Index(i)))
			} else {
				fill(made.Index(i))
			}
		}
		made.Set(made.Slice(0, v.Len()))
	case reflect.Struct:
		for i := range v.NumField() {
			made.Field(i).Set(roomy(v.Field(i)))
		}
	default:
		made.Set(v)
	}
	return made
}

// fill puts junk into a thing.
func fill(v reflect.Value) {
	switch v.Kind() {
	case reflect.Struct:
		for i := range v.NumField() {
			fill(v.Field(i))
		}
	case reflect.String:
		v.SetString("junk")
	case reflect.Int, reflect.Int64:
		v.SetInt(99)
	}
}

// whole is a thing with what stands behind its lists' lengths.
func whole(v reflect.Value) reflect.Value {
	made := reflect.New(v.Type()).Elem()
	switch v.Kind() {
	case reflect.Slice:
		made.Set(reflect.MakeSlice(v.Type(), v.Cap(), v.Cap()))
		for i := range v.Cap() {
			made.Index(i).Set(whole(v.Slice(0, v.Cap()).Index(i)))
		}
	case reflect.Struct:
		for i := range v.NumField() {
			made.Field(i).Set(whole(v.Field(i)))
		}
	default:
		made.Set(v)
	}
	return made
}

// spoil overwrites all that an answer's lists lead to, their spare room too.
func spoil(v reflect.Value) {
	switch v.Kind() {
	case reflect.Slice:
		all := v.Slice(0, v.Cap())
		for i := range v.Cap() {
			spoil(all.Index(i))
			fill(all.Index(i))
		}
	case reflect.Struct:
		for i := range v.NumField() {
			spoil(v.Field(i))
		}
	}
}

// spans are where in memory the lists of a thing lie, with their spare room, and its texts.
func spans(v reflect.Value) [][2]uintptr {
	var all [][2]uintptr
	switch v.Kind() {
	case reflect.Slice:
		if v.Cap() > 0 {
			all = append(all, [2]uintptr{v.Pointer(), v.Pointer() + uintptr(v.Cap())*v.Type().Elem().Size()})
		}
		for i := range v.Len() {
			all = append(all, spans(v.Index(i))...)
		}
	case reflect.Struct:
		for i := range v.NumField() {
			all = append(all, spans(v.Field(i))...)
		}
	case reflect.String:
		if s := v.String(); s != "" {
			from := uintptr(unsafe.Pointer(unsafe.StringData(s)))
			all = append(all, [2]uintptr{from, from + uintptr(len(s))})
		}
	}
	return all
}

// Neither lists nor texts of an answer lie where others of it lie, or where those lie that were handed in.
func TestShares(t *testing.T) {
	us := units(t)
	for round := range 20 {
		n := tree(t, madeText(us, 6000+round))
		u, notes, _, e := check.Check(n, us)
		if e != api.OK {
			t.Fatal(e)
		}
		type span struct {
			at     [2]uintptr
			answer bool
		}
		var all []span
		for _, at := range slices.Concat(spans(reflect.ValueOf(u)), spans(reflect.ValueOf(notes))) {
			all = append(all, span{at, true})
		}
		for _, at := range slices.Concat(spans(reflect.ValueOf(n)), spans(reflect.ValueOf(us))) {
			all = append(all, span{at, false})
		}
		slices.SortFunc(all, func(a, b span) int { return cmp.Compare(a.at[0], b.at[0]) })
		ends := map[bool]uintptr{}
		for _, s := range all {
			if ends[true] > s.at[0] || s.answer && ends[false] > s.at[0] {
				t.Fatalf("round %d: two lists or texts share memory", round)
			}
			ends[s.answer] = max(ends[s.answer], s.at[1])
		}
		if len(spans(reflect.ValueOf(u))) < 20 || len(spans(reflect.ValueOf(notes))) < 1 {
			t.Errorf("round %d: too few lists and texts", round)
		}
	}
}

// What is handed in stays as it is, its spare room too, and what is answered shares nothing with it, with other answers, or within itself.
func TestKept(t *testing.T) {
	us := units(t)
	for round := range 60 {
		n := tree(t, madeText(us, 5000+round))
		if round%3 > 0 {
			m := &maker{state: uint64(round)}
			m.turn(&n)
		}
		handed, units := roomy(reflect.ValueOf(n)).Interface().(api.Node), roomy(reflect.ValueOf(us)).Interface().([]api.Unit)
		nodesWere, unitsWere := whole(reflect.ValueOf(handed)).Interface(), whole(reflect.ValueOf(units)).Interface()
		u, notes, at, e := check.Check(handed, units)
		wantUnit, wantNotes := copyOf(reflect.ValueOf(u)).Interface(), copyOf(reflect.ValueOf(notes)).Interface()
		if !reflect.DeepEqual(nodesWere, whole(reflect.ValueOf(handed)).Interface()) || !reflect.DeepEqual(unitsWere, whole(reflect.ValueOf(units)).Interface()) {
			t.Fatalf("round %d: what was handed in is another", round)
		}
		spoil(reflect.ValueOf(notes))
		if !same(u, wantUnit) {
			t.Fatalf("round %d: unit and notes share something", round)
		}
		spoil(reflect.ValueOf(u))
		if !reflect.DeepEqual(nodesWere, whole(reflect.ValueOf(handed)).Interface()) || !reflect.DeepEqual(unitsWere, whole(reflect.ValueOf(units)).Interface()) {
			t.Fatalf("round %d: an answer shares something with what was handed in", round)
		}
		u, notes, again, twice := check.Check(handed, units)
		if again != at || twice != e || !same(u, wantUnit) || !same(notes, wantNotes) {
			t.Fatalf("round %d: another answer: %d at %d", round, twice, again)
		}
		for i := range notes {
			spoil(reflect.ValueOf(notes[i]))
			notes[i] = api.Note{}
			if rest := wantNotes.([]api.Note)[i+1:]; !same(notes[i+1:], rest) {
				t.Fatalf("round %d: notes share something", round)
			}
		}
	}
}
