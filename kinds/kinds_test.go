package kinds_test

import (
	"reflect"
	"strings"
	"testing"

	"mortise/api"
	"mortise/kinds"
)

func typ(kind int) api.Type          { return api.Type{Kind: kind} }
func ptr(p, n string) api.Type       { return api.Type{Kind: api.TPtr, Pkg: p, Name: n} }
func face(p, n string) api.Type      { return api.Type{Kind: api.TIface, Pkg: p, Name: n} }
func tvar(n string) api.Type         { return api.Type{Kind: api.TVar, Name: n} }
func slice(t ...api.Type) api.Type   { return api.Type{Kind: api.TSlice, Args: t} }
func proc(args ...api.Type) api.Type { return api.Type{Kind: api.TFunc, Args: args} }

func fn(res api.Type, args ...api.Type) api.Type {
	return api.Type{Kind: api.TFunc, Args: args, Res: []api.Type{res}}
}

func ofInt() api.Type  { return typ(api.TInt) }
func ofBool() api.Type { return typ(api.TBool) }
func ofText() api.Type { return typ(api.TText) }

func field(name string, t api.Type) api.Field { return api.Field{Name: name, Type: t} }

func method(of, name string, t api.Type) api.Decl {
	return api.Decl{Kind: api.DMethod, Name: name, Of: of, Type: t}
}

func iface(name string, methods ...api.Field) api.Decl {
	return api.Decl{Kind: api.DIface, Name: name, Fields: methods}
}

func structOf(name string) api.Decl { return api.Decl{Kind: api.DStruct, Name: name} }

// allKinds are types of each kind, and of kinds that there are not.
func allKinds() []api.Type {
	return []api.Type{
		typ(api.TNone), ofInt(), ofBool(), ofText(), typ(api.TNil), ptr("p", "T"), slice(ofInt()), proc(), face("p", "I"), tvar("A"),
		typ(api.TVar + 1), typ(-1), typ(1 << 40),
	}
}

// same tells whether two things are one, if nil and empty lists are.
func same(a, b any) bool { return reflect.DeepEqual(tidied(a), tidied(b)) }

// tidied is a copy of a thing of which no list is empty.
func tidied(of any) any {
	v := reflect.New(reflect.TypeOf(of)).Elem()
	v.Set(copyOf(reflect.ValueOf(of)))
	return v.Interface()
}

func copyOf(v reflect.Value) reflect.Value {
	made := reflect.New(v.Type()).Elem()
	switch {
	case v.Kind() == reflect.Slice && v.Len() > 0:
		made.Set(reflect.MakeSlice(v.Type(), v.Len(), v.Len()))
		for i := range v.Len() {
			made.Index(i).Set(copyOf(v.Index(i)))
		}
	case v.Kind() == reflect.Slice:
	case v.Kind() == reflect.Struct:
		for i := range v.NumField() {
			made.Field(i).Set(copyOf(v.Field(i)))
		}
	default:
		made.Set(v)
	}
	return made
}

// 7.1: the chapter's example, each kind, and types that are as they should not be.
func TestText(t *testing.T) {
	for _, c := range []struct {
		t    api.Type
		want string
	}{
		{typ(api.TNone), "none"}, {ofInt(), "int"}, {ofBool(), "bool"}, {ofText(), "string"}, {typ(api.TNil), "nil"},
		{ptr("p", "T"), "*p.T"}, {ptr("", ""), "*."}, {face("p", "I"), "p.I"}, {face("", "I"), ".I"}, {tvar("A"), "A"}, {tvar(""), ""},
		{slice(ofInt()), "[]int"}, {slice(slice(ptr("p", "T"))), "[][]*p.T"}, {slice(), "[]"}, {slice(slice()), "[][]"}, {slice(ofInt(), ofBool()), "[]int"},
		{api.Type{Kind: api.TSlice, Res: []api.Type{ofInt()}}, "[]"},
		{fn(ofBool(), ofInt(), slice(ofText())), "func(int, []string) bool"}, {proc(), "func()"}, {proc(ofInt()), "func(int)"}, {proc(ofInt(), ofInt(), ofInt()), "func(int, int, int)"},
		{fn(proc()), "func() func()"}, {fn(fn(ofInt()), fn(ofInt())), "func(func() int) func() int"}, {slice(proc(slice(tvar("B")))), "[]func([]B)"},
		{fn(typ(api.TNone)), "func() none"}, {api.Type{Kind: api.TFunc, Res: []api.Type{ofInt(), ofBool()}}, "func() int"},
		{typ(-1), ""}, {typ(api.TVar + 1), ""}, {slice(typ(77)), "[]"}, {fn(typ(77), typ(77), typ(77)), "func(, ) "},
		{api.Type{Kind: 77, Pkg: "p", Name: "T", Args: []api.Type{ofInt()}, Res: []api.Type{ofInt()}}, ""},
		{api.Type{Kind: api.TInt, Pkg: "p", Name: "T", Args: []api.Type{ofBool()}, Res: []api.Type{ofBool()}}, "int"},
		{api.Type{Kind: api.TPtr, Pkg: "p", Name: "T", Args: []api.Type{ofBool()}, Res: []api.Type{ofBool()}}, "*p.T"},
		{api.Type{Kind: api.TVar, Pkg: "p", Name: "T", Args: []api.Type{ofBool()}}, "T"},
	} {
		if s := kinds.Text(c.t); s != c.want {
			t.Errorf("of %v: %q, want %q", c.t, s, c.want)
		}
	}
}

// turned are types that are unlike a type in just one thing of it, or of one within it.
func turned(of api.Type) []api.Type {
	var all []api.Type
	with := func(turn func(*api.Type)) {
		other := of
		turn(&other)
		all = append(all, other)
	}
	with(func(t *api.Type) { t.Kind++ })
	with(func(t *api.Type) { t.Pkg += "x" })
	with(func(t *api.Type) { t.Name = "x" + t.Name })
	for _, list := range turnedLists(of.Args) {
		with(func(t *api.Type) { t.Args = list })
	}
	for _, list := range turnedLists(of.Res) {
		with(func(t *api.Type) { t.Res = list })
	}
	return all
}

func turnedLists(of []api.Type) [][]api.Type {
	all := [][]api.Type{append(append([]api.Type{}, of...), ofInt()), append([]api.Type{typ(api.TNone)}, of...)}
	for i, part := range of {
		all = append(all, append(append([]api.Type{}, of[:i]...), of[i+1:]...))
		for _, other := range turned(part) {
			list := append([]api.Type{}, of...)
			list[i] = other
			all = append(all, list)
		}
	}
	return all
}

// 7.1: a type against itself, and against each that is turned in one thing.
func TestSame(t *testing.T) {
	all := append(allKinds(), fn(ptr("p", "T"), slice(face("p", "I")), tvar("A")), slice(slice(slice(ptr("q", "U")))), fn(fn(fn(ofInt(), tvar("B")))),
		api.Type{Kind: 77, Pkg: "p", Name: "n", Args: []api.Type{ofInt(), ofBool()}, Res: []api.Type{ofText(), slice(ofInt())}})
	for _, a := range all {
		if !kinds.Same(a, a) || !kinds.Same(a, copyOf(reflect.ValueOf(a)).Interface().(api.Type)) {
			t.Errorf("%v is not itself", a)
		}
		for _, b := range turned(a) {
			if kinds.Same(a, b) || kinds.Same(b, a) {
				t.Errorf("%v is %v", a, b)
			}
		}
	}
	for i, a := range allKinds() {
		for j, b := range allKinds() {
			if kinds.Same(a, b) != (i == j) {
				t.Errorf("%v, %v", a, b)
			}
		}
	}
}

// 7.1: args that change their order, that stand among the results, and lists that are nil or empty.
func TestSameLists(t *testing.T) {
	for _, c := range []struct {
		a, b api.Type
		want bool
	}{
		{proc(ofInt(), ofBool()), proc(ofBool(), ofInt()), false},
		{fn(ofInt()), proc(ofInt()), false},
		{fn(ofInt(), ofBool()), fn(ofBool(), ofInt()), false},
		{proc(), api.Type{Kind: api.TFunc, Args: []api.Type{}, Res: []api.Type{}}, true},
		{proc(slice()), proc(api.Type{Kind: api.TSlice, Args: []api.Type{}}), true},
		{proc(ofInt()), api.Type{Kind: api.TFunc, Args: []api.Type{ofInt(), ofBool()}[:1]}, true},
	} {
		if kinds.Same(c.a, c.b) != c.want || kinds.Same(c.b, c.a) != c.want {
			t.Errorf("%v, %v: want %v", c.a, c.b, c.want)
		}
	}
}

// vars are type variables: one for each thing that one must be, and one that stands twice.
func vars() []api.Field {
	return []api.Field{
		field("Any", typ(api.TNone)), field("Eq", ofBool()), field("I", face("p", "I")), field("J", face("p", "J")), field("E", face("p", "E")),
		field("Twice", face("p", "I")), field("Twice", ofBool()), field("Back", ofBool()), field("Back", face("p", "I")),
		field("Lost", face("p", "Nowhere")), field("NoFace", face("p", "T")), field("Ptr", ptr("p", "T")), field("Var", tvar("I")), field("EqVar", tvar("Eq")), field("Int", ofInt()), field("", face("p", "I")),
	}
}

// units are packages p and q, p there twice.
func units() []api.Unit {
	m, n := fn(ofInt()), proc(ofBool())
	return []api.Unit{
		{Pkg: "p", Decls: []api.Decl{
			method("T", "n", n), method("T", "T", m), method("U", "m", n), structOf("T"), method("T", "m", m), method("", "x", m),
			iface("I", field("m", m)), iface("J", field("n", n), field("m", m)), iface("K", field("m", n)), iface("E"), structOf("U"), structOf("V"),
			iface("Twos", field("n", n), field("m", n), field("n", m), field("m", m)), method("Many", "m", n), method("Many", "a", n), method("Many", "m", m),
			iface("T", field("late", m)), iface("m", field("n", n)), {Kind: api.DFunc, Name: "F", Type: m, Fields: []api.Field{field("m", m)}},
			{Kind: 77, Name: "Odd", Fields: []api.Field{field("m", m)}}, {Name: "Zero", Fields: []api.Field{field("m", m)}},
		}},
		{Pkg: "p", Decls: []api.Decl{structOf("Late"), iface("L"), method("V", "m", m), iface("I")}},
		{Pkg: "q", Decls: []api.Decl{{Kind: api.DConst, Name: "C", Value: 5}, {Kind: api.DVar, Name: "C", Type: ofInt()}, method("T", "m", m), iface("I", field("n", n)), method("C", "D", m)}},
		{Pkg: "r"}, {Pkg: "r", Decls: []api.Decl{structOf("T")}},
	}
}

// 7.2: what Find finds, and by what it is not misled.
func TestFind(t *testing.T) {
	us := units()
	for _, c := range []struct {
		pkg, name string
		unit, at  int // -1: none
	}{
		{"p", "T", 0, 3}, {"p", "m", 0, 17}, {"p", "U", 0, 10}, {"p", "I", 0, 6}, {"p", "F", 0, 18}, {"p", "Odd", 0, 19}, {"p", "Zero", 0, 20}, {"q", "C", 2, 0}, {"q", "I", 2, 3},
		{"p", "n", 0, -1}, {"p", "", 0, -1}, {"p", "x", 0, -1}, {"p", "Late", 0, -1}, {"p", "L", 0, -1}, {"q", "D", 0, -1}, {"q", "T", 0, -1}, {"r", "T", 0, -1}, {"", "T", 0, -1}, {"s", "T", 0, -1}, {"P", "T", 0, -1}, {"p", "t", 0, -1}, {"p", "T ", 0, -1},
	} {
		var want api.Decl
		if c.at >= 0 {
			want = us[c.unit].Decls[c.at]
		}
		if d, ok := kinds.Find(us, c.pkg, c.name); ok != (c.at >= 0) || !same(d, want) {
			t.Errorf("%q, %q: %v, %v", c.pkg, c.name, d, ok)
		}
	}
	if d, ok := kinds.Find(nil, "", ""); ok || !same(d, api.Decl{}) {
		t.Errorf("in nothing: %v, %v", d, ok)
	}
}

// 7.2: a declaration is told whole.
func TestFindWhole(t *testing.T) {
	want := api.Decl{Kind: api.DFunc, Name: "F", Of: "T", Value: -7, Type: fn(slice(tvar("A")), ptr("p", "T")), Fields: []api.Field{field("A", face("q", "I")), field("B", fn(ofInt(), ofBool()))}}
	us := []api.Unit{{Pkg: "p", Imports: []api.Import{{Name: "q", Hash: 1}}, Decls: []api.Decl{structOf("T"), want}}}
	if d, ok := kinds.Find(us, "p", "F"); !ok || !same(d, want) {
		t.Errorf("%v, %v", d, ok)
	}
}

// told is a list of fields as text.
func told(l []api.Field) string {
	s := ""
	for _, f := range l {
		s += f.Name + " " + kinds.Text(f.Type) + "; "
	}
	return strings.TrimSuffix(s, " ")
}

// 7.2: the methods of each kind of type.
func TestMethods(t *testing.T) {
	us := units()
	for _, c := range []struct {
		t    api.Type
		want string
	}{
		{ptr("p", "T"), "T func() int; m func() int; n func(bool);"}, {ptr("p", "U"), "m func(bool);"}, {ptr("p", ""), "x func() int;"},
		{ptr("p", "Many"), "a func(bool); m func(bool); m func() int;"}, {ptr("q", "T"), "m func() int;"}, {ptr("q", "C"), "D func() int;"},
		{ptr("p", "V"), ""}, {ptr("p", "I"), ""}, {ptr("r", "T"), ""}, {ptr("s", "T"), ""}, {ptr("", "T"), ""},
		{face("p", "I"), "m func() int;"}, {face("p", "J"), "m func() int; n func(bool);"}, {face("p", "E"), ""}, {face("q", "I"), "n func(bool);"}, {face("p", "m"), "n func(bool);"},
		{face("p", "Twos"), "m func(bool); m func() int; n func(bool); n func() int;"},
		{face("p", "T"), ""}, {face("p", "L"), ""}, {face("p", "F"), ""}, {face("p", "Odd"), ""}, {face("p", "Zero"), ""}, {face("p", "Nowhere"), ""}, {face("s", "I"), ""},
		{tvar("I"), "m func() int;"}, {tvar("J"), "m func() int; n func(bool);"}, {tvar("Twice"), "m func() int;"}, {tvar(""), "m func() int;"},
		{tvar("E"), ""}, {tvar("Any"), ""}, {tvar("Eq"), ""}, {tvar("Back"), ""}, {tvar("Lost"), ""}, {tvar("NoFace"), ""}, {tvar("Ptr"), ""}, {tvar("Var"), ""}, {tvar("Unknown"), ""},
		{typ(api.TNone), ""}, {ofInt(), ""}, {typ(api.TNil), ""}, {slice(ptr("p", "T")), ""}, {proc(ptr("p", "T")), ""}, {api.Type{Kind: api.TText, Pkg: "p", Name: "T"}, ""}, {api.Type{Kind: 77, Pkg: "p", Name: "I"}, ""},
	} {
		if s := told(kinds.Methods(us, vars(), c.t)); s != c.want {
			t.Errorf("of %v: %s want %s", c.t, s, c.want)
		}
	}
	if l := kinds.Methods(nil, nil, tvar("I")); len(l) != 0 {
		t.Errorf("of a variable that is not known: %v", l)
	}
}

// 7.2: names rise byte by byte, and of many of one name each stays where it is.
func TestMethodsOrder(t *testing.T) {
	names := []string{"b", "B", "_", "a1", "a", "", "aa", "Z9", "Z", "\xff", "é", "a\x00"}
	want := []string{"", "B", "Z", "Z9", "_", "a", "a\x00", "a1", "aa", "b", "é", "\xff"}
	var methods []api.Decl
	var fields []api.Field
	for i := range 40 {
		for _, name := range names {
			methods = append(methods, method("T", name, tvar(strings.Repeat("x", i))))
			fields = append(fields, field(name, tvar(strings.Repeat("x", i))))
		}
	}
	us := []api.Unit{{Pkg: "p", Decls: append(methods, iface("I", fields...))}}
	for _, of := range []api.Type{ptr("p", "T"), face("p", "I")} {
		l := kinds.Methods(us, nil, of)
		if len(l) != 40*len(want) {
			t.Fatalf("of %v: %d", of, len(l))
		}
		for i, f := range l {
			if f.Name != want[i/40] || len(f.Type.Name) != i%40 {
				t.Errorf("of %v, at %d: %v", of, i, f)
			}
		}
	}
}

// 7.3: each kind that may stand where another one is wanted, and where it may not.
func TestFits(t *testing.T) {
	us := units()
	for _, c := range []struct {
		from, to api.Type
		want     bool
	}{
		{typ(api.TNil), ptr("p", "T"), true}, {typ(api.TNil), ptr("s", "T"), true}, {typ(api.TNil), slice(ofInt()), true}, {typ(api.TNil), proc(), true}, {typ(api.TNil), face("p", "J"), true}, {typ(api.TNil), face("p", "Nowhere"), true},
		{typ(api.TNil), tvar("I"), false}, {typ(api.TNil), ofInt(), false}, {typ(api.TNil), ofText(), false}, {typ(api.TNil), ofBool(), false}, {typ(api.TNil), typ(77), false}, {typ(api.TNil), typ(api.TNone), false},
		{ptr("p", "T"), typ(api.TNil), false}, {face("p", "I"), typ(api.TNil), false},
		{ptr("p", "T"), face("p", "I"), true}, {ptr("p", "T"), face("p", "J"), true}, {ptr("p", "T"), face("p", "K"), false}, {ptr("p", "U"), face("p", "I"), false}, {ptr("p", "U"), face("p", "K"), true},
		{ptr("p", "U"), face("p", "E"), true}, {ptr("p", "V"), face("p", "I"), false}, {ptr("p", "V"), face("p", "E"), true}, {ptr("s", "T"), face("p", "E"), true}, {ptr("q", "T"), face("p", "I"), true}, {ptr("q", "T"), face("q", "I"), false},
		{ptr("p", "Many"), face("p", "I"), true}, {ptr("p", "Many"), face("p", "K"), true}, {ptr("p", "Many"), face("p", "J"), false},
		{face("p", "J"), face("p", "I"), true}, {face("p", "I"), face("p", "J"), false}, {face("p", "Twos"), face("p", "J"), true}, {face("p", "J"), face("p", "Twos"), false}, {face("p", "E"), face("p", "I"), false}, {face("p", "I"), face("p", "E"), true}, {face("q", "I"), face("p", "m"), true},
		{face("p", "Nowhere"), face("p", "E"), false}, {face("p", "E"), face("p", "Nowhere"), false}, {face("p", "T"), face("p", "E"), false}, {ptr("p", "U"), face("p", "T"), false}, {ptr("p", "U"), face("p", "Odd"), false}, {ptr("p", "U"), face("p", "L"), false}, {ptr("p", "T"), face("p", "Zero"), false},
		{face("p", "I"), ptr("p", "T"), false}, {ptr("p", "T"), ptr("p", "U"), false}, {ptr("p", "T"), ptr("q", "T"), false},
		{tvar("I"), face("p", "I"), true}, {tvar("J"), face("p", "I"), true}, {tvar("I"), face("p", "J"), false}, {tvar("Twice"), face("p", "I"), true}, {tvar("Back"), face("p", "I"), false}, {tvar("Eq"), face("p", "I"), false}, {tvar("Eq"), face("p", "E"), true}, {tvar("Any"), face("p", "E"), true}, {tvar("Lost"), face("p", "E"), true}, {tvar("Ptr"), face("p", "I"), false}, {tvar("Var"), face("p", "I"), false}, {tvar("Unknown"), face("p", "E"), true},
		{face("p", "I"), tvar("I"), false}, {ptr("p", "T"), tvar("I"), false}, {tvar("I"), tvar("J"), false}, {tvar("Int"), ofInt(), false}, {ofInt(), tvar("Int"), false},
		{ofInt(), face("p", "E"), false}, {ofText(), face("p", "E"), false}, {slice(ofInt()), face("p", "E"), false}, {proc(), face("p", "E"), false}, {typ(77), face("p", "E"), false}, {api.Type{Kind: api.TText, Pkg: "p", Name: "T"}, face("p", "E"), false},
		{slice(ptr("p", "T")), slice(face("p", "I")), false}, {proc(face("p", "I")), proc(ptr("p", "T")), false}, {fn(ptr("p", "T")), fn(face("p", "I")), false}, {slice(typ(api.TNil)), slice(proc()), false},
		{ofInt(), ofBool(), false}, {slice(ofInt()), slice(ofBool()), false}, {proc(), fn(ofInt()), false},
		{ptr("p", "T"), api.Type{Kind: api.TSlice, Pkg: "p", Name: "I"}, false},
	} {
		if kinds.Fits(us, vars(), c.from, c.to) != c.want {
			t.Errorf("%v for %v: want %v", c.from, c.to, c.want)
		}
	}
}

// 7.3, 7.6: TNone never fits and is never fitted; all else fits itself.
func TestFitsItself(t *testing.T) {
	all := append(allKinds(), face("p", "Nowhere"), face("p", "T"), ptr("s", "T"), tvar("Unknown"), fn(typ(api.TNone), typ(api.TNone)), slice())
	for _, a := range all {
		if kinds.Fits(units(), vars(), a, a) != (a.Kind != api.TNone) || kinds.Fits(nil, nil, a, a) != (a.Kind != api.TNone) {
			t.Errorf("%v for itself", a)
		}
		for _, none := range []api.Type{typ(api.TNone), {Kind: api.TNone, Pkg: "p", Name: "T"}} {
			if kinds.Fits(units(), vars(), a, none) || kinds.Fits(units(), vars(), none, a) {
				t.Errorf("%v and TNone", a)
			}
		}
	}
}

// 7.4: what may be held against each other.
func TestComparable(t *testing.T) {
	for _, c := range []struct {
		t    api.Type
		want bool
	}{
		{ofInt(), true}, {ofBool(), true}, {ofText(), true}, {ptr("p", "T"), true}, {ptr("s", ""), true}, {face("p", "I"), true}, {face("p", "Nowhere"), true},
		{typ(api.TNone), false}, {typ(api.TNil), false}, {slice(ofInt()), false}, {slice(), false}, {proc(), false}, {typ(77), false}, {typ(-1), false},
		{tvar("Eq"), true}, {tvar("Back"), true}, {tvar("Twice"), false}, {tvar("Any"), false}, {tvar("I"), false}, {tvar("E"), false}, {tvar("Ptr"), false}, {tvar("Int"), false}, {tvar("EqVar"), false}, {tvar("Unknown"), false},
	} {
		if kinds.Comparable(vars(), c.t) != c.want {
			t.Errorf("%v: want %v", c.t, c.want)
		}
	}
	if kinds.Comparable(nil, tvar("Eq")) {
		t.Error("a variable that is not known")
	}
}

// 7.4: types in the place of variables.
func TestPut(t *testing.T) {
	names := []string{"A", "B", "A", "C", "D"}
	types := []api.Type{slice(tvar("B")), ofInt(), ofBool(), tvar("C")}
	odd := api.Type{Kind: 77, Pkg: "A", Name: "A", Args: []api.Type{tvar("A")}, Res: []api.Type{tvar("B"), tvar("B")}}
	for _, c := range []struct{ t, want api.Type }{
		{tvar("A"), slice(tvar("B"))}, {tvar("B"), ofInt()}, {tvar("C"), tvar("C")}, {tvar("D"), tvar("D")}, {tvar("E"), tvar("E")}, {tvar(""), tvar("")},
		{ofInt(), ofInt()}, {typ(api.TNone), typ(api.TNone)}, {ptr("A", "A"), ptr("A", "A")}, {face("B", "B"), face("B", "B")}, {api.Type{Kind: api.TText, Name: "B"}, api.Type{Kind: api.TText, Name: "B"}},
		{slice(tvar("B")), slice(ofInt())}, {slice(slice(tvar("A"))), slice(slice(slice(tvar("B"))))}, {slice(), slice()},
		{fn(tvar("A"), tvar("B"), tvar("D"), tvar("B")), fn(slice(tvar("B")), ofInt(), tvar("D"), ofInt())}, {fn(fn(tvar("B"), proc(tvar("B")))), fn(fn(ofInt(), proc(ofInt())))},
		{odd, api.Type{Kind: 77, Pkg: "A", Name: "A", Args: []api.Type{slice(tvar("B"))}, Res: []api.Type{ofInt(), ofInt()}}},
		{api.Type{Kind: api.TVar, Pkg: "p", Name: "B", Args: []api.Type{tvar("A")}}, ofInt()},
		{api.Type{Kind: api.TVar, Pkg: "p", Name: "E", Args: []api.Type{tvar("B")}}, api.Type{Kind: api.TVar, Pkg: "p", Name: "E", Args: []api.Type{ofInt()}}},
		{api.Type{Kind: api.TPtr, Name: "T", Args: []api.Type{tvar("B")}}, api.Type{Kind: api.TPtr, Name: "T", Args: []api.Type{ofInt()}}},
	} {
		if got := kinds.Put(c.t, names, types); !same(got, c.want) {
			t.Errorf("in %v: %v, want %v", c.t, got, c.want)
		}
		if got := kinds.Put(c.t, nil, types); !same(got, c.t) {
			t.Errorf("in %v, without names: %v", c.t, got)
		}
		if got := kinds.Put(c.t, names, nil); !same(got, c.t) {
			t.Errorf("in %v, without types: %v", c.t, got)
		}
	}
}

// 7.4: the first place counts, even if there is no type at it but one behind it; none stands at a place behind the names.
func TestPutPlaces(t *testing.T) {
	all := proc(tvar("A"), tvar("B"))
	for _, c := range []struct {
		names []string
		types []api.Type
		want  api.Type
	}{
		{[]string{"A", "B"}, []api.Type{tvar("B"), tvar("A")}, proc(tvar("B"), tvar("A"))},
		{[]string{"A", "B"}, []api.Type{ofInt()}, proc(ofInt(), tvar("B"))},
		{[]string{"A"}, []api.Type{ofInt(), ofBool()}, proc(ofInt(), tvar("B"))},
		{[]string{"B", "B", "A", "A"}, []api.Type{ofInt(), ofBool(), ofText()}, proc(ofText(), ofInt())},
		{[]string{"B", "A", "B"}, []api.Type{typ(api.TNone), typ(api.TNil), ofText()}, proc(typ(api.TNil), typ(api.TNone))},
		{[]string{"a", "", "AB"}, []api.Type{ofInt(), ofInt(), ofInt()}, all},
	} {
		if got := kinds.Put(all, c.names, c.types); !same(got, c.want) {
			t.Errorf("of %v, %v: %v, want %v", c.names, c.types, got, c.want)
		}
	}
}

func list[T any](l ...T) []T { return l }

// 7.5: the chapter's example, and what is found in which order.
func TestInfer(t *testing.T) {
	odd := func(args, res []api.Type) api.Type { return api.Type{Kind: api.TFunc, Args: args, Res: res} }
	for _, c := range []struct {
		names        []string
		params, args []api.Type
		want         []api.Type
	}{
		{list("T"), list(slice(tvar("T"))), list(slice(ofInt())), list(ofInt())},
		{list("A"), list(tvar("A")), list(ptr("p", "T")), list(ptr("p", "T"))},
		{list("A", "B"), list(tvar("B"), tvar("A")), list(ofInt(), ofBool()), list(ofBool(), ofInt())},
		{list("A", "A"), list(tvar("A")), list(ofInt()), list(ofInt(), ofInt())},
		{list("A", "B", "A"), list(tvar("A"), tvar("B")), list(slice(ofInt()), ofBool()), list(slice(ofInt()), ofBool(), slice(ofInt()))},
		{nil, list(tvar("A")), list(ofInt()), nil}, {nil, nil, nil, nil},
		// What has a type already is not looked at again, whatever comes to it.
		{list("A"), list(tvar("A"), tvar("A")), list(ofInt(), ofBool()), list(ofInt())},
		{list("A"), list(tvar("A"), tvar("A"), tvar("A")), list(ofInt(), typ(api.TNil), typ(api.TNone)), list(ofInt())},
		{list("A"), list(slice(tvar("A")), tvar("A")), list(slice(slice(ofInt())), ofText()), list(slice(ofInt()))},
		// Args come ahead of results, and what stands within a param ahead of the next one.
		{list("A"), list(fn(tvar("A"), tvar("A"))), list(fn(ofInt(), ofBool())), list(ofBool())},
		{list("A"), list(fn(tvar("A")), tvar("A")), list(fn(ofInt()), ofBool()), list(ofInt())},
		{list("A"), list(proc(ofInt(), proc(slice(tvar("A"))), tvar("A"))), list(proc(ofBool(), proc(slice(ofInt())), ofText())), list(ofInt())},
		// A variable that is not among the names, and what is unlike beside one that is found.
		{list("A"), list(tvar("B"), tvar("A"), ofInt()), list(ofInt(), tvar("B"), ofText()), list(tvar("B"))},
		{list("A"), list(tvar("A")), list(tvar("A")), list(tvar("A"))}, {list("A"), list(tvar("A")), list(slice(tvar("A"))), list(slice(tvar("A")))},
		{list("A"), list(tvar("A")), list(typ(77)), list(typ(77))}, {list("A"), list(tvar("A")), list(slice(typ(api.TNil))), list(slice(typ(api.TNil)))},
		// Lists of unlike lengths.
		{list("A"), list(tvar("A"), tvar("B")), list(ofInt()), list(ofInt())}, {list("A"), list(tvar("A")), list(ofInt(), typ(api.TNil)), list(ofInt())},
		{list("A"), list(proc(tvar("A"), ofInt())), list(proc(ofText())), list(ofText())}, {list("A"), list(slice(ofInt(), tvar("A"))), list(slice(ofInt(), ofText())), list(ofText())},
		{list("A"), list(odd(nil, list(ofInt(), tvar("A")))), list(odd(nil, list(ofInt(), ofText()))), list(ofText())},
		{list("A"), list(api.Type{Kind: api.TSlice, Res: list(tvar("A"))}), list(api.Type{Kind: api.TSlice, Res: list(ofText())}), list(ofText())},
	} {
		if got, ok := kinds.Infer(c.names, c.params, c.args); !ok || !same(got, c.want) {
			t.Errorf("%v, %v, %v: %v, %v", c.names, c.params, c.args, got, ok)
		}
	}
}

// 7.5: names that no type is found for, or one that must not be.
func TestInferNone(t *testing.T) {
	none, null := typ(api.TNone), typ(api.TNil)
	for _, c := range []struct {
		names        []string
		params, args []api.Type
	}{
		{list("A"), nil, nil}, {list(""), nil, nil}, {list("A"), list(tvar("A")), nil}, {list("A"), nil, list(ofInt())}, {list("A"), list(tvar("a")), list(ofInt())},
		{list("A", "B"), list(tvar("A")), list(ofInt())}, {list("A", "B"), list(tvar("A"), tvar("A")), list(ofInt(), ofBool())}, {list("A"), list(ofInt(), tvar("A")), list(ofInt())},
		{list("A"), list(tvar("A")), list(null)}, {list("A"), list(tvar("A")), list(none)}, {list("A"), list(tvar("A"), tvar("A")), list(null, ofInt())}, {list("A"), list(tvar("A"), tvar("A")), list(none, ofInt())},
		{list("A", "B"), list(tvar("A"), tvar("B")), list(ofInt(), null)}, {list("A"), list(slice(tvar("A"))), list(slice(null))}, {list("A"), list(fn(tvar("A"))), list(fn(none))},
		{list("A"), list(slice(tvar("A"))), list(ofInt())}, {list("A"), list(slice(tvar("A"))), list(proc(ofInt()))}, {list("A"), list(proc(tvar("A"))), list(slice(ofInt()))}, {list("A"), list(slice(tvar("A"))), list(null)}, {list("A"), list(slice(tvar("A"))), list(tvar("A"))}, {list("A"), list(slice(tvar("A"))), list(slice())},
		{list("A"), list(fn(ofInt(), tvar("A"))), list(fn(ofInt()))}, {list("A"), list(fn(tvar("A"))), list(proc(ofInt()))}, {list("A"), list(fn(tvar("A"))), list(proc())},
		{list("A"), list(api.Type{Kind: api.TPtr, Args: list(tvar("A"))}), list(api.Type{Kind: api.TPtr, Args: list(ofInt())})},
		{list("A"), list(api.Type{Kind: 77, Args: list(tvar("A"))}), list(api.Type{Kind: 77, Args: list(ofInt())})},
		{list("A"), list(api.Type{Kind: api.TVar, Name: "B", Args: list(tvar("A"))}), list(api.Type{Kind: api.TVar, Name: "B", Args: list(ofInt())})},
		{list("A"), list(api.Type{Kind: api.TPtr, Name: "A"}), list(ofInt())},
	} {
		if got, ok := kinds.Infer(c.names, c.params, c.args); ok || len(got) != 0 {
			t.Errorf("%v, %v, %v: %v, %v", c.names, c.params, c.args, got, ok)
		}
	}
}
