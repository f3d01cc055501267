package check_test

import (
	"reflect"
	"slices"
	"testing"

	"mortise/api"
	"mortise/check"
	"mortise/parse"
	"mortise/show"
)

// madeText is a made package that is right.
func madeText(us []api.Unit, round int) string {
	m := &maker{state: uint64(round), left: 250, us: slices.Concat([]api.Unit{{Pkg: "a"}}, us)}
	return m.text()
}

// eachNode does something with all nodes, each ahead of its kids.
func eachNode(n *api.Node, do func(*api.Node)) {
	do(n)
	for i := range n.Kids {
		eachNode(&n.Kids[i], do)
	}
}

// same tells whether two things are one, if nil and empty lists are.
func same(a, b any) bool {
	return reflect.DeepEqual(copyOf(reflect.ValueOf(a)).Interface(), copyOf(reflect.ValueOf(b)).Interface())
}

// copyOf is a thing in memory of its own, of which no list is empty.
func copyOf(v reflect.Value) reflect.Value {
	made := reflect.New(v.Type()).Elem()
	switch {
	case v.Kind() == reflect.Slice && v.Len() > 0:
		made.Set(reflect.MakeSlice(v.Type(), v.Len(), v.Len()))
		for i := range v.Len() {
			made.Index(i).Set(copyOf(v.Index(i)))
		}
	case v.Kind() == reflect.Slice:
	case v.Kind() == reflect.Struct:
		for i := range v.NumField() {
			made.Field(i).Set(copyOf(v.Field(i)))
		}
	default:
		made.Set(v)
	}
	return made
}

// checkTree holds what is answered of a tree against the model, and tells it.
func checkTree(t *testing.T, n api.Node, us []api.Unit) api.Errno {
	t.Helper()
	u, notes, at, e := check.Check(n, us)
	text, refused := show.Text(n)
	if e != api.OK {
		places := map[int]bool{}
		eachNode(&n, func(n *api.Node) { places[n.At] = true })
		if !same(u, api.Unit{}) || len(notes) > 0 || !places[at] {
			t.Fatalf("%q: beside %d at %d: %v, %v", text, e, at, u, notes)
		}
	}
	if refused != api.OK {
		if e != api.ErrForm {
			t.Fatalf("%v, that has no text: %d", n, e)
		}
		return e
	}
	want, wanted, broken := modelCheck(n, us)
	switch {
	case e != api.OK && !broken[e]:
		t.Fatalf("%q: %d at %d, want one of %v", text, e, at, broken)
	case e == api.OK && (len(broken) > 0 || at != 0):
		t.Fatalf("%q: right, at %d, want one of %v", text, at, broken)
	case e == api.OK && !same(u, want):
		t.Fatalf("%q: %v, want %v", text, u, want)
	case e == api.OK && !same(notes, wanted):
		t.Fatalf("%q: notes %v, want %v", text, notes, wanted)
	}
	return e
}

// 10.1, 10.2, 10.3: made packages that are right.
func TestMadePackages(t *testing.T) {
	us := units(t)
	seen := map[int]int{}
	for round := range 700 {
		s := madeText(us, round)
		n, at, e := parse.Parse(s)
		if e == api.ErrLong || e == api.ErrDeep {
			continue
		}
		if e != api.OK {
			t.Fatalf("%q: %d at %d", s, e, at)
		}
		if e := checkTree(t, n, us); e != api.OK {
			_, _, at, _ := check.Check(n, us)
			t.Fatalf("%q: %d at %d, %q", s, e, at, s[at:])
		}
		eachNode(&n, func(n *api.Node) { seen[n.Kind]++ })
	}
	for kind := api.NFile; kind <= api.NMethodExpr; kind++ {
		if seen[kind] < 40 {
			t.Errorf("of kind %d %d nodes were made", kind, seen[kind])
		}
	}
}

// turn changes something of a tree: it may be wrong then, and may be none of a text.
func (m *maker) turn(n *api.Node) {
	var all []*api.Node
	byKind := map[int][]*api.Node{}
	eachNode(n, func(n *api.Node) {
		all = append(all, n)
		byKind[sortOf(n.Kind)] = append(byKind[sortOf(n.Kind)], n)
	})
	at := pick(m, all...)
	switch m.upTo(8) {
	case 0:
		at.Op = pick(m, api.Add, api.Sub, api.Lt, api.Eq, api.Ne, api.AndAnd, api.OrOr, api.Rem)
		if at.Kind != api.NBinary {
			at.Op = 0
		}
	case 1, 2:
		named := pick(m, all...)
		for at.Text == "" || named.Text == "" {
			at, named = pick(m, all...), pick(m, all...)
		}
		at.Text = pick(m, named.Text, named.Text, named.Text, "nope", "T", "q", "V", "f", "x")
	case 3, 4, 5:
		other := pick(m, byKind[sortOf(at.Kind)]...)
		*at = *copied(other)
	case 6:
		if len(at.Kids) > 0 {
			i := m.upTo(len(at.Kids))
			at.Kids = slices.Concat(at.Kids[:i], at.Kids[i+1:])
		}
	case 7:
		if len(at.Kids) > 0 {
			i, k := m.upTo(len(at.Kids)), m.upTo(len(at.Kids))
			at.Kids = slices.Concat(at.Kids[:i], []api.Node{*copied(&at.Kids[k])}, at.Kids[i:])
		}
	}
}

// sortOf is one number for all kinds that stand at the same places.
func sortOf(kind int) int {
	switch {
	case kind >= api.NInt && kind != api.NKey:
		return api.NInt
	case kind >= api.NTypeName && kind <= api.NFuncOf:
		return api.NTypeName
	case kind >= api.NBlock && kind <= api.NReturn:
		return api.NBlock
	}
	return kind
}

func copied(n *api.Node) *api.Node {
	made := copyOf(reflect.ValueOf(*n)).Interface().(api.Node)
	return &made
}

// 10.1, 10.2, 10.3: made packages that are then turned in some places, against the model.
func TestTurnedPackages(t *testing.T) {
	us := units(t)
	ends := map[api.Errno]int{}
	for round := range 500 {
		of, _, e := parse.Parse(madeText(us, round))
		if e != api.OK {
			continue
		}
		m := &maker{state: uint64(round) + 1<<40}
		for range 10 {
			n := copied(&of)
			for range 1 + m.upTo(2) {
				m.turn(n)
			}
			ends[checkTree(t, *n, us)]++
		}
	}
	if ends[api.OK] < 500 || ends[api.ErrName] < 300 || ends[api.ErrTwice] < 200 || ends[api.ErrType] < 500 || ends[api.ErrForm] < 200 {
		t.Errorf("how they ended: %v", ends)
	}
}
