package kinds_test

import (
	"reflect"
	"slices"
	"strings"
	"testing"

	"mortise/api"
	"mortise/kinds"
)

// checkCounts holds that both answers came often enough.
func checkCounts(t *testing.T, counts map[bool]int, least int) {
	t.Helper()
	if counts[true] < least || counts[false] < least {
		t.Errorf("what was answered: %v", counts)
	}
}

// 7.1: made types, against themselves, each other, and turned ones.
func TestMadeTypes(t *testing.T) {
	counts := map[bool]int{}
	for round := range 20000 {
		m := &maker{state: uint64(round)}
		a := m.typ(3)
		if s := kinds.Text(a); s != modelText(a) {
			t.Fatalf("Text(%v): %q", a, s)
		}
		all := turned(a)
		for _, b := range []api.Type{m.typ(1), m.like(a), pick(m, all...), tidied(a).(api.Type)} {
			want := same(a, b)
			counts[want]++
			if kinds.Same(a, b) != want || kinds.Same(b, a) != want {
				t.Fatalf("Same(%v, %v): want %v", a, b, want)
			}
		}
	}
	checkCounts(t, counts, 5000)
}

// 7.2: made units.
func TestMadeUnits(t *testing.T) {
	found, methods := map[bool]int{}, map[bool]int{}
	for round := range 20000 {
		m := &maker{state: uint64(round) + 1<<40}
		us, vars := some(m, 5, m.unit), some(m, 5, m.must)
		pkg, name := m.pkg(), m.name()
		d, ok := kinds.Find(us, pkg, name)
		want, there := modelFind(us, pkg, name)
		if ok != there || !same(d, want) {
			t.Fatalf("Find(%v, %q, %q): %v, %v", us, pkg, name, d, ok)
		}
		found[ok]++
		of := pick(m, m.named(), m.named(), m.typ(1))
		l := kinds.Methods(us, vars, of)
		if !same(l, modelMethods(us, vars, of)) {
			t.Fatalf("Methods(%v, %v, %v): %v", us, vars, of, l)
		}
		methods[len(l) > 1]++
	}
	checkCounts(t, found, 3000)
	checkCounts(t, methods, 500)
}

// 7.3, 7.4: made types, in made units.
func TestMadeFits(t *testing.T) {
	fits, through, comparable := map[bool]int{}, map[bool]int{}, map[bool]int{}
	for round := range 20000 {
		m := &maker{state: uint64(round) + 1<<41}
		us, vars := some(m, 5, m.unit), some(m, 5, m.must)
		for range 5 {
			from, to := pick(m, m.named(), m.named(), m.typ(1)), pick(m, m.typ(1), face(m.pkg(), m.name()), face(m.pkg(), m.name()))
			want := modelFits(us, vars, from, to)
			if kinds.Fits(us, vars, from, to) != want {
				t.Fatalf("Fits(%v, %v, %v, %v): want %v", us, vars, from, to, want)
			}
			fits[want]++
			if modelFound(us, to) && len(modelMethods(us, vars, to)) > 0 && len(modelMethods(us, vars, from)) > 0 && !same(from, to) {
				through[want]++
			}
			want = modelComparable(vars, from)
			if kinds.Comparable(vars, from) != want {
				t.Fatalf("Comparable(%v, %v): want %v", vars, from, want)
			}
			comparable[want]++
		}
	}
	checkCounts(t, fits, 2000)
	checkCounts(t, through, 150)
	checkCounts(t, comparable, 5000)
}

// 7.6: what fits an interface fits each one whose methods it has.
func TestMadeThrough(t *testing.T) {
	counts := map[bool]int{}
	for round := range 20000 {
		m := &maker{state: uint64(round) + 1<<42}
		us, vars := some(m, 5, m.unit), some(m, 5, m.must)
		for range 10 {
			from, through, to := m.named(), face(m.pkg(), m.name()), face(m.pkg(), m.name())
			if from.Kind != api.TNone && !kinds.Fits(us, vars, from, from) {
				t.Fatalf("%v does not fit itself", from)
			}
			if !modelFound(us, through) || !modelFound(us, to) || !kinds.Fits(us, vars, from, through) {
				continue
			}
			has := modelHas(us, vars, through, to)
			counts[has]++
			if has && !kinds.Fits(us, vars, from, to) {
				t.Fatalf("in %v, %v: %v fits %v, but not %v", us, vars, from, through, to)
			}
		}
	}
	checkCounts(t, counts, 300)
}

// 7.4, 7.5, 7.6: made types with variables, against what is handed to them.
func TestMadeInfers(t *testing.T) {
	counts := map[bool]int{}
	for round := range 40000 {
		m := &maker{state: uint64(round) + 1<<43}
		names := some(m, 5, m.varName)
		params := some(m, 6, func() api.Type { return pick(m, tvar(m.varName()), m.typ(2)) })
		args := some(m, 3, func() api.Type { return m.typ(2) })
		if m.upTo(5) > 0 {
			args = nil
			for _, p := range params {
				args = append(args, m.like(p))
			}
		}
		types, ok := kinds.Infer(names, params, args)
		want, there := modelInfer(names, params, args)
		if ok != there || !same(types, want) {
			t.Fatalf("Infer(%v, %v, %v): %v, %v, want %v, %v", names, params, args, types, ok, want, there)
		}
		if len(names) > 0 {
			counts[ok]++
		}
		if ok {
			checkPut(t, names, types, params, args)
		}
		of, to := m.typ(3), some(m, 5, func() api.Type { return m.typ(2) })
		if got := kinds.Put(of, names, to); !same(got, modelPut(of, names, to)) {
			t.Fatalf("Put(%v, %v, %v): %v", of, names, to, got)
		}
	}
	checkCounts(t, counts, 3000)
}

// checkPut holds that Put of what Infer tells turns each variable of the names, where it comes first among the params, into its arg.
func checkPut(t *testing.T, names []string, types, params, args []api.Type) {
	t.Helper()
	come := map[string]int{}
	for _, pair := range modelPairs(params, args) {
		name := pair[0].Name
		if slices.Contains(names, name) && come[name] == 0 && !same(kinds.Put(pair[0], names, types), pair[1]) {
			t.Fatalf("Put(%v, %v, %v) is not %v", pair[0], names, types, pair[1])
		}
		come[name]++
	}
}

// junk is what stands behind each list's length.
func junk() api.Type { return api.Type{Kind: 99, Pkg: "junk", Name: "junk"} }

// roomy is a copy of a thing in which each list has room behind its length, with junk in it.
func roomy(of any) any {
	v := reflect.New(reflect.TypeOf(of)).Elem()
	v.Set(withRoom(reflect.ValueOf(of)))
	return v.Interface()
}

func withRoom(v reflect.Value) reflect.Value {
	made := reflect.New(v.Type()).Elem()
	switch v.Kind() {
	case reflect.Slice:
		made.Set(reflect.MakeSlice(v.Type(), v.Len()+2, v.Len()+2))
		for i := range v.Len() {
			made.Index(i).Set(withRoom(v.Index(i)))
		}
		for i := v.Len(); i < v.Len()+2; i++ {
			fillJunk(made.Index(i))
		}
		made.Set(made.Slice(0, v.Len()))
	case reflect.Struct:
		for i := range v.NumField() {
			made.Field(i).Set(withRoom(v.Field(i)))
		}
	default:
		made.Set(v)
	}
	return made
}

func fillJunk(v reflect.Value) {
	switch at := v.Addr().Interface().(type) {
	case *api.Type:
		*at = junk()
	case *api.Field:
		*at = field("junk", junk())
	case *api.Decl:
		*at = api.Decl{Kind: api.DIface, Name: "T", Fields: []api.Field{field("junk", junk())}}
	case *api.Unit:
		*at = api.Unit{Pkg: "p", Decls: []api.Decl{iface("I", field("junk", junk()))}}
	case *string:
		*at = "A"
	}
}

// whole is a thing with all that stands behind the lengths of its lists.
func whole(of any) any {
	v := reflect.New(reflect.TypeOf(of)).Elem()
	v.Set(reflect.ValueOf(of))
	eachList(v, func(list reflect.Value) { list.Set(list.Slice(0, list.Cap())) })
	return v.Interface()
}

// eachList hands each list of a thing that is a copy to do, ahead of the lists within it.
func eachList(v reflect.Value, do func(reflect.Value)) {
	switch v.Kind() {
	case reflect.Slice:
		do(v)
		for i := range v.Len() {
			part := reflect.New(v.Type().Elem()).Elem()
			part.Set(v.Index(i))
			eachList(part, do)
		}
	case reflect.Struct:
		for i := range v.NumField() {
			eachList(v.Field(i), do)
		}
	}
}

// span is the memory of a list, with its room.
type span struct{ from, to uintptr }

func spansOf(all ...any) []span {
	var spans []span
	for _, of := range all {
		v := reflect.New(reflect.TypeOf(of)).Elem()
		v.Set(reflect.ValueOf(of))
		eachList(v, func(list reflect.Value) {
			if size := uintptr(list.Cap()) * list.Type().Elem().Size(); size > 0 {
				spans = append(spans, span{list.Pointer(), list.Pointer() + size})
			}
		})
	}
	return spans
}

// checkApart holds that no list of an answer has memory with another one of it, or one that was handed in.
func checkApart(t *testing.T, what string, answer any, in ...any) {
	t.Helper()
	spans := spansOf(answer)
	for i, s := range spans {
		for _, other := range append(spans[i+1:], spansOf(in...)...) {
			if s.from < other.to && other.from < s.to {
				t.Fatalf("%s: %v has memory with something else", what, answer)
			}
		}
	}
}

// R3: nothing behind a length is read or written, nothing that is handed in is changed, and an answer's memory is its own.
func TestMemory(t *testing.T) {
	for round := range 3000 {
		m := &maker{state: uint64(round) + 1<<44}
		plainUnits, plainVars, plainTypes := some(m, 4, m.unit), some(m, 5, m.must), some(m, 6, func() api.Type { return m.typ(2) })
		us, vars, types := roomy(plainUnits).([]api.Unit), roomy(plainVars).([]api.Field), roomy(plainTypes).([]api.Type)
		names := roomy([]string{"B", "C", "B", "D"}).([]string)
		before := []any{roomy(plainUnits), roomy(plainVars), roomy(plainTypes), roomy([]string{"B", "C", "B", "D"})}
		in := []any{us, vars, types, names}

		for _, of := range append(types, ptr(m.pkg(), m.name()), face(m.pkg(), m.name()), tvar(m.varName())) {
			methods := kinds.Methods(us, vars, of)
			checkApart(t, "Methods", methods, in...)
			put := kinds.Put(of, names, types)
			checkApart(t, "Put", put, in...)
			if !same(methods, modelMethods(plainUnits, plainVars, of)) || !same(put, modelPut(tidied(of).(api.Type), names, plainTypes)) {
				t.Fatalf("of %v: %v, %v", of, methods, put)
			}
			kinds.Text(of)
			kinds.Comparable(vars, of)
			for _, to := range types {
				kinds.Same(of, to)
				kinds.Fits(us, vars, of, to)
			}
		}
		d, _ := kinds.Find(us, m.pkg(), m.name())
		checkApart(t, "Find", d, in...)
		params := []api.Type{tvar("C"), tvar("D"), tvar("B")}
		inferred, ok := kinds.Infer(names, params, types)
		checkApart(t, "Infer", inferred, append(in, params)...)
		if want, there := modelInfer(names, params, plainTypes); ok != there || !same(inferred, want) {
			t.Fatalf("Infer of %v: %v, %v", plainTypes, inferred, ok)
		}
		for i := range in {
			if !reflect.DeepEqual(whole(in[i]), whole(before[i])) {
				t.Fatalf("what is handed in is changed: %v, it was %v", whole(in[i]), whole(before[i]))
			}
		}
	}
}

// R3: what is answered stays as it is when what was handed in is changed behind it.
func TestKept(t *testing.T) {
	us := units()
	d, _ := kinds.Find(us, "p", "I")
	l := kinds.Methods(us, nil, ptr("p", "T"))
	of := fn(tvar("A"), slice(ofInt()))
	types := []api.Type{slice(ofBool())}
	put := kinds.Put(of, []string{"A"}, types)
	inferred, _ := kinds.Infer([]string{"A"}, []api.Type{tvar("A")}, types)

	for _, d := range us[0].Decls {
		clear(d.Type.Args)
		clear(d.Type.Res)
		for _, f := range d.Fields {
			clear(f.Type.Args)
			clear(f.Type.Res)
		}
		clear(d.Fields)
	}
	clear(us[0].Decls)
	of.Args[0].Args[0], of.Res[0], types[0].Args[0] = junk(), junk(), junk()
	for _, c := range []struct{ got, want any }{
		{d, iface("I", field("m", fn(ofInt())))},
		{told(l), "T func() int; m func() int; n func(bool);"},
		{put, fn(slice(ofBool()), slice(ofInt()))},
		{inferred, []api.Type{slice(ofBool())}},
	} {
		if !same(c.got, c.want) {
			t.Errorf("%v, want %v", c.got, c.want)
		}
	}
}

// deepType is a type in which others stand so deep, with a variable as the last one.
func deepType(deep int) api.Type {
	t := tvar("A")
	for i := 1; i < deep; i++ {
		if i%2 == 0 {
			t = slice(t)
		} else {
			t = fn(t)
		}
	}
	return t
}

// R1, R6: types that are as deep as is promised, each call.
func TestDeep(t *testing.T) {
	const deep = 1 << 16
	a, b := deepType(deep), deepType(deep-2)
	if !kinds.Same(a, a) || kinds.Same(a, b) || !kinds.Fits(nil, nil, a, a) || kinds.Comparable(nil, a) {
		t.Error("Same, Fits, Comparable")
	}
	if s := kinds.Text(a); !strings.HasSuffix(s, "A") || strings.Count(s, "[]") != deep/2-1 || strings.Count(s, "func() ") != deep/2 {
		t.Errorf("Text: %d bytes", len(s))
	}
	if got := kinds.Put(b, []string{"A"}, []api.Type{fn(tvar("A"))}); kinds.Same(got, b) || !strings.HasSuffix(kinds.Text(got), "func() A") {
		t.Error("Put")
	}
	if l, ok := kinds.Infer([]string{"A"}, []api.Type{a}, []api.Type{kinds.Put(a, []string{"A"}, []api.Type{ofInt()})}); !ok || len(l) != 1 || !kinds.Same(l[0], ofInt()) {
		t.Error("Infer")
	}
	us := []api.Unit{{Pkg: "p", Decls: []api.Decl{method("T", "m", a), iface("I", field("m", a)), iface("J", field("m", b))}}}
	if d, ok := kinds.Find(us, "p", "I"); !ok || !kinds.Same(d.Fields[0].Type, a) {
		t.Error("Find")
	}
	if l := kinds.Methods(us, nil, ptr("p", "T")); len(l) != 1 || !kinds.Same(l[0].Type, a) {
		t.Error("Methods")
	}
	if !kinds.Fits(us, nil, ptr("p", "T"), face("p", "I")) || kinds.Fits(us, nil, ptr("p", "T"), face("p", "J")) {
		t.Error("Fits")
	}
}

// R1: lists of very many parts.
func TestWide(t *testing.T) {
	const wide = 100000
	var args []api.Type
	var methods []api.Decl
	var fields []api.Field
	var names []string
	for i := range wide {
		name := strings.Repeat("x", i%7) + string(rune('a'+i%26)) + string(rune('a'+i/26%26)) + string(rune('a'+i/676%26)) + string(rune('a'+i/17576))
		args = append(args, tvar(name))
		names = append(names, name)
		methods = append(methods, method("T", name, proc()))
		fields = append(fields, field(name, proc()))
	}
	slices.Reverse(fields)
	all := proc(args...)
	us := []api.Unit{{Pkg: "p", Decls: append(methods, iface("I", fields...))}}
	if !kinds.Fits(us, nil, ptr("p", "T"), face("p", "I")) || !kinds.Fits(us, nil, face("p", "I"), face("p", "I")) {
		t.Error("Fits")
	}
	if l := kinds.Methods(us, nil, face("p", "I")); len(l) != wide || !slices.IsSortedFunc(l, func(a, b api.Field) int { return strings.Compare(a.Name, b.Name) }) {
		t.Error("Methods")
	}
	if l, ok := kinds.Infer(names, []api.Type{all}, []api.Type{all}); !ok || len(l) != wide {
		t.Error("Infer")
	}
	if !kinds.Same(kinds.Put(all, names, args), all) || len(kinds.Text(all)) < wide*6 {
		t.Error("Put, Text")
	}
}
