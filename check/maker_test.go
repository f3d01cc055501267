package check_test

import (
	"slices"
	"strconv"
	"strings"

	"mortise/api"
	"mortise/kinds"
)

// maker makes texts of packages that are right, the same ones in each run.
type maker struct {
	state uint64
	left  int // how much more may be made
	us    []api.Unit
	vars  []api.Field
	known []variable
	inner int
	res   []api.Type
	loops int
	names int
	funcs []string // functions that stand behind what is made, since it calls them
}

type variable struct {
	name string
	t    api.Type
}

// upTo is a number below n.
func (m *maker) upTo(n int) int {
	m.state = m.state*6364136223846793005 + 1442695040888963407
	return int(m.state >> 33 % uint64(n))
}

func pick[T any](m *maker, of ...T) T { return of[m.upTo(len(of))] }

func ptr(pkg, name string) api.Type    { return api.Type{Kind: api.TPtr, Pkg: pkg, Name: name} }
func face(pkg, name string) api.Type   { return api.Type{Kind: api.TIface, Pkg: pkg, Name: name} }
func slice(of api.Type) api.Type       { return api.Type{Kind: api.TSlice, Args: []api.Type{of}} }
func fn(args ...api.Type) api.Type     { return api.Type{Kind: api.TFunc, Args: args} }
func (m *maker) may() bool             { return m.upTo(2) == 0 }
func (m *maker) own() string           { return m.us[0].Pkg }
func (m *maker) fresh(s string) string { m.names++; return s + strconv.Itoa(m.names) }

// written is how package a writes a type.
func (m *maker) written(t api.Type) string {
	s := kinds.Text(t)
	return strings.ReplaceAll(strings.ReplaceAll(s, "*"+m.own()+".", "*"), m.own()+".", "")
}

// typ is some type that can be written.
func (m *maker) typ(deep int) api.Type {
	m.left--
	if deep > 0 && m.left > 0 {
		switch m.upTo(6) {
		case 0:
			return slice(m.typ(deep - 1))
		case 1:
			t := fn()
			for range m.upTo(4) {
				t.Args = append(t.Args, m.typ(deep-1))
			}
			if m.may() {
				t.Res = []api.Type{m.typ(deep - 1)}
			}
			return t
		case 2:
			of := pick(m, ptr("q", "T"), m.declared(api.DStruct), m.declared(api.DStruct))
			for _, f := range kinds.Methods(m.us, nil, of) {
				t := api.Type{Kind: api.TFunc, Args: slices.Concat([]api.Type{of}, f.Type.Args), Res: f.Type.Res}
				if !m.hiddenType(t) && m.may() {
					return t
				}
			}
		}
	}
	if len(m.vars) > 0 && m.upTo(4) == 0 {
		return api.Type{Kind: api.TVar, Name: pick(m, m.vars...).Name}
	}
	t := pick(m, typ(api.TInt), typ(api.TBool), typ(api.TText), ptr("q", "T"), face("q", "I"), face("q", "J"), face("q", "E"), m.declared(api.DStruct), m.declared(api.DIface))
	if !m.hiddenType(t) {
		return t
	}
	return typ(api.TInt)
}

// hiddenType tells whether a type variable hides the name of a type, or of one in it, so that it can't be written.
func (m *maker) hiddenType(t api.Type) bool {
	return slices.ContainsFunc(within(t), func(t api.Type) bool {
		return t.Pkg == m.own() && slices.ContainsFunc(m.vars, func(v api.Field) bool { return v.Name == t.Name })
	})
}

// declared is the type of something of a kind that the package declares.
func (m *maker) declared(kind int) api.Type {
	var all []api.Type
	for _, d := range m.us[0].Decls {
		if d.Kind == kind {
			all = append(all, map[int]func(string, string) api.Type{api.DStruct: ptr, api.DIface: face}[kind](m.own(), d.Name))
		}
	}
	if len(all) == 0 {
		return typ(api.TBool)
	}
	return pick(m, all...)
}

// hidden tells whether a local variable hides a name of the package.
func (m *maker) hidden(name string) bool {
	return slices.ContainsFunc(m.known, func(v variable) bool { return v.name == name })
}

// ofType are texts of expressions of a type that are there already.
func (m *maker) ofType(t api.Type) []string {
	var all []string
	for i, v := range m.known {
		later := slices.ContainsFunc(m.known[i+1:], func(w variable) bool { return w.name == v.name })
		if !later {
			all = append(all, m.reached(v.name, v.t, t)...)
		}
	}
	for _, u := range m.us[:2] {
		ahead := ""
		if u.Pkg != m.own() {
			ahead = u.Pkg + "."
		}
		for _, d := range u.Decls {
			if m.hidden(strings.TrimSuffix(ahead, ".")) || ahead == "" && m.hidden(d.Name) || ahead != "" && !open(d.Name) {
				continue
			}
			switch {
			case d.Kind == api.DConst:
				all = append(all, m.reached(ahead+d.Name, typ(api.TInt), t)...)
			case d.Kind == api.DVar || d.Kind == api.DFunc && len(d.Fields) == 0:
				all = append(all, m.reached(ahead+d.Name, d.Type, t)...)
			}
		}
	}
	return all
}

func open(name string) bool { return name[0] >= 'A' && name[0] <= 'Z' }

// reached are the texts of what has a type among an expression, its fields, methods, elements and calls.
func (m *maker) reached(s string, is, t api.Type) []string {
	if m.hiddenType(is) {
		return nil
	}
	var all []string
	if kinds.Same(is, t) {
		all = append(all, s)
	}
	switch is.Kind {
	case api.TPtr:
		d, _ := kinds.Find(m.us, is.Pkg, is.Name)
		for _, f := range d.Fields {
			if kinds.Same(f.Type, t) && (is.Pkg == m.own() || open(f.Name)) {
				all = append(all, s+"."+f.Name)
			}
		}
	case api.TSlice:
		if kinds.Same(is.Args[0], t) {
			all = append(all, s+"["+m.expr(typ(api.TInt), 1)+"]")
		}
		if kinds.Same(is, t) {
			all = append(all, s+pick(m, "[:]", "[1:]", "[:get()]", "[0:1]"), "append("+s+", "+m.fitting(is.Args[0], 1)+")")
		}
	case api.TFunc:
		if len(is.Res) > 0 && kinds.Same(is.Res[0], t) && len(is.Args) < 3 && m.left > 0 {
			all = append(all, s+m.args(is.Args))
		}
	}
	if is.Kind == api.TPtr || is.Kind == api.TIface || is.Kind == api.TVar {
		for _, f := range kinds.Methods(m.us, m.vars, is) {
			if is.Kind == api.TPtr && is.Pkg != m.own() && !open(f.Name) || m.hiddenType(f.Type) {
				continue
			}
			if kinds.Same(f.Type, t) {
				all = append(all, s+"."+f.Name)
			}
			if len(f.Type.Res) > 0 && kinds.Same(f.Type.Res[0], t) && m.left > 0 {
				all = append(all, s+"."+f.Name+m.args(f.Type.Args))
			}
		}
	}
	return all
}

func (m *maker) args(ts []api.Type) string {
	var all []string
	for _, t := range ts {
		all = append(all, m.fitting(t, 1))
	}
	return "(" + strings.Join(all, ", ") + ")"
}

// fitting is an expression that fits a type.
func (m *maker) fitting(t api.Type, deep int) string {
	m.left--
	nils := t.Kind == api.TPtr || t.Kind == api.TSlice || t.Kind == api.TFunc || t.Kind == api.TIface
	if nils && m.upTo(4) == 0 {
		return "nil"
	}
	if t.Kind == api.TIface && m.may() {
		others := []api.Type{ptr("q", "T"), face("q", "I"), m.declared(api.DStruct), m.declared(api.DIface)}
		for _, v := range m.vars {
			others = append(others, api.Type{Kind: api.TVar, Name: v.Name})
		}
		if from := pick(m, others...); !m.hiddenType(from) && kinds.Fits(m.us, m.vars, from, t) {
			return m.expr(from, deep)
		}
	}
	return m.expr(t, deep)
}

// expr is an expression of just a type.
func (m *maker) expr(t api.Type, deep int) string {
	m.left--
	if m.left > 0 && m.upTo(3) > 0 {
		if all := m.ofType(t); len(all) > 0 {
			return pick(m, all...)
		}
	}
	if m.left > 0 && deep > 0 {
		switch m.upTo(6) {
		case 0:
			return "(" + m.expr(t, deep-1) + ")"
		case 1:
			return "func() " + m.written(t) + " { return " + m.fitting(t, deep-1) + "; }()"
		case 2:
			if s := m.generic(t, deep-1); s != "" {
				return s
			}
		}
	}
	return m.made(t, deep)
}

// plain tells whether a type variable may become a type.
func plain(t api.Type) bool {
	return t.Kind == api.TVar || !slices.ContainsFunc(within(t), func(t api.Type) bool { return t.Kind == api.TVar })
}

// generic is a call of a function with type variables that has a type, if there is one.
func (m *maker) generic(t api.Type, deep int) string {
	switch {
	case plain(t) && kinds.Comparable(m.vars, t) && !m.hidden("q") && m.may():
		return "q.G(" + m.expr(t, deep) + ")"
	case plain(t) && !m.hidden("id") && m.may():
		return "id(" + m.expr(t, deep) + ")"
	case t.Kind == api.TSlice && plain(t.Args[0]) && !m.hidden("both") && m.may():
		return "both(" + m.expr(t.Args[0], deep) + ", " + m.expr(t, deep) + ")"
	case plain(t) && !m.hidden("do"):
		from := m.typ(1)
		if !plain(from) {
			return ""
		}
		f := fn(from)
		f.Res = []api.Type{t}
		return "do(" + m.expr(f, deep) + ", " + m.fitting(from, deep) + ")"
	}
	return ""
}

// made is an expression that makes a value of a type.
func (m *maker) made(t api.Type, deep int) string {
	if deep < 1 || m.left < 1 {
		deep = 0
	}
	switch t.Kind {
	case api.TInt:
		return m.number(deep)
	case api.TBool:
		return m.truth(deep)
	case api.TText:
		if deep > 0 && m.may() {
			return pick(m, m.expr(t, deep-1)+" + "+m.expr(t, deep-1), "("+m.expr(t, deep-1)+")[:1]")
		}
		return pick(m, `""`, `"a"`, `"\n"`)
	case api.TPtr:
		return m.object(t, deep)
	case api.TSlice:
		if m.may() {
			return "make(" + m.written(t) + ", " + m.expr(typ(api.TInt), deep-1) + ")"
		}
		var all []string
		for range m.upTo(3) {
			all = append(all, m.fitting(t.Args[0], deep-1))
		}
		return m.written(t) + "{" + strings.Join(all, ", ") + "}"
	case api.TFunc:
		return m.function(t, deep)
	case api.TIface:
		if deep > 0 {
			from := pick(m, face("q", "I"), face("q", "E"), m.declared(api.DIface))
			if from.Kind == api.TIface && !m.hiddenType(from) {
				return "(" + m.expr(from, deep-1) + ").(" + m.written(t) + ")"
			}
		}
	}
	return "func() " + m.written(t) + " { for { } }()"
}

func (m *maker) number(deep int) string {
	t := typ(api.TInt)
	if deep == 0 {
		return pick(m, "0", "1", "get()", "9223372036854775807")
	}
	switch m.upTo(4) {
	case 0:
		return "-(" + m.expr(t, deep-1) + ")"
	case 1:
		return "len(" + m.expr(pick(m, typ(api.TText), slice(m.typ(1))), deep-1) + ")"
	case 2:
		return "(" + m.expr(typ(api.TText), deep-1) + ")[" + m.expr(t, deep-1) + "]"
	}
	return "(" + m.expr(t, deep-1) + ")" + pick(m, " + ", " - ", " * ", " / ", " % ") + "(" + m.expr(t, deep-1) + ")"
}

func (m *maker) truth(deep int) string {
	t := typ(api.TBool)
	if deep == 0 {
		return pick(m, "true", "false")
	}
	switch m.upTo(5) {
	case 0:
		return "!(" + m.expr(t, deep-1) + ")"
	case 1:
		return "(" + m.expr(t, deep-1) + ")" + pick(m, " && ", " || ") + "(" + m.expr(t, deep-1) + ")"
	case 2:
		return "(" + m.expr(typ(api.TInt), deep-1) + ")" + pick(m, " < ", " <= ", " > ", " >= ") + "(" + m.expr(typ(api.TInt), deep-1) + ")"
	case 3:
		of := m.typ(1)
		if of.Kind == api.TPtr || of.Kind == api.TSlice || of.Kind == api.TFunc || of.Kind == api.TIface {
			return pick(m, "nil == ("+m.expr(of, deep-1)+")", "("+m.expr(of, deep-1)+") != nil")
		}
	}
	of := m.typ(0)
	if !kinds.Comparable(m.vars, of) {
		of = typ(api.TInt)
	}
	other := m.fitting
	if len(m.vars) > 0 {
		// What fits may be a type variable's, which is not held against others.
		other = m.expr
	}
	return "(" + other(of, deep-1) + ")" + pick(m, " == ", " != ") + "(" + m.expr(of, deep-1) + ")"
}

// object is a new struct.
func (m *maker) object(t api.Type, deep int) string {
	d, _ := kinds.Find(m.us, t.Pkg, t.Name)
	var keys []string
	for _, f := range d.Fields {
		if m.may() && (t.Pkg == m.own() || open(f.Name)) && !m.hiddenType(f.Type) {
			keys = append(keys, f.Name+": "+m.fitting(f.Type, deep-1))
		}
	}
	slices.Reverse(keys)
	return "&" + strings.TrimPrefix(m.written(t), "*") + "{" + strings.Join(keys, ", ") + "}"
}

// function is a literal, or a method as a function.
func (m *maker) function(t api.Type, deep int) string {
	if len(t.Args) > 0 && t.Args[0].Kind == api.TPtr && m.may() {
		for _, f := range kinds.Methods(m.us, nil, t.Args[0]) {
			if slices.EqualFunc(f.Type.Args, t.Args[1:], kinds.Same) && slices.EqualFunc(f.Type.Res, t.Res, kinds.Same) && (t.Args[0].Pkg == m.own() || open(f.Name)) {
				return "(" + m.written(t.Args[0]) + ")." + f.Name
			}
		}
	}
	var names []string
	for range t.Args {
		names = append(names, m.fresh("p"))
	}
	return "func" + m.routine(names, t, deep)
}

// routine are parameters, the result and the block of a function.
func (m *maker) routine(names []string, t api.Type, deep int) string {
	known, inner, res, loops := m.known, m.inner, m.res, m.loops
	m.inner, m.res, m.loops = len(known), t.Res, 0
	var params []string
	for i, name := range names {
		params = append(params, name+" "+m.written(t.Args[i]))
		m.known = append(m.known, variable{name, t.Args[i]})
	}
	s := "(" + strings.Join(params, ", ") + ") "
	if len(t.Res) > 0 {
		s += m.written(t.Res[0]) + " "
	}
	s += "{ " + m.stats(deep)
	if len(t.Res) > 0 {
		s += m.end(deep)
	}
	m.known, m.inner, m.res, m.loops = known, inner, res, loops
	return s + "}"
}

// end is a statement behind which a function with a result never runs out.
func (m *maker) end(deep int) string {
	switch m.upTo(8) {
	case 0:
		return "panic(" + m.expr(typ(api.TInt), deep) + "); "
	case 1:
		return "for { " + pick(m, "", "continue; ", "for { break; } ", "for true { if true { break; } } ") + "} "
	case 2:
		return "if " + m.expr(typ(api.TBool), deep) + " { " + m.inside(func() string { return m.end(deep - 1) }) + "} else { " + m.inside(func() string { return m.end(deep - 1) }) + "} "
	case 3:
		return "{ " + m.inside(func() string { return m.stats(deep-1) + m.end(deep-1) }) + "} "
	}
	return "return " + m.fitting(m.res[0], deep) + "; "
}

// inside makes something in a scope of its own.
func (m *maker) inside(do func() string) string {
	known, inner := m.known, m.inner
	m.inner = len(known)
	s := do()
	m.known, m.inner = known, inner
	return s
}

func (m *maker) stats(deep int) string {
	s := ""
	for range m.upTo(4) {
		if m.left > 0 && deep > 0 {
			s += m.stat(deep - 1)
		}
	}
	return s
}

// name is a new variable's name: maybe one that hides another one.
func (m *maker) name() string {
	s := pick(m, "x", "y", "z", "q", "id", "s", "f", "A", m.fresh("v"))
	if slices.ContainsFunc(m.known[m.inner:], func(v variable) bool { return v.name == s }) {
		return m.fresh("w")
	}
	return s
}

func (m *maker) stat(deep int) string {
	m.left--
	switch m.upTo(9) {
	case 0:
		t, name := m.typ(2), m.name()
		s := "var " + name + " " + m.written(t)
		if m.may() {
			s += " = " + m.fitting(t, deep)
		}
		m.known = append(m.known, variable{name, t})
		return s + "; "
	case 1:
		t, name := m.typ(2), m.name()
		s := name + " := " + m.expr(t, deep) + "; "
		m.known = append(m.known, variable{name, t})
		return s
	case 2:
		return m.assign(deep)
	case 3:
		return pick(m, "put(", "panic(") + m.expr(typ(api.TInt), deep) + "); "
	case 4:
		s := "if " + m.expr(typ(api.TBool), deep) + " { " + m.inside(func() string { return m.stats(deep) }) + "} "
		if m.may() {
			s += "else " + pick(m, "{ } ", "if "+m.expr(typ(api.TBool), deep)+" { "+m.inside(func() string { return m.stats(deep) })+"} ")
		}
		return s
	case 5:
		m.loops++
		s := "for " + pick(m, "", m.expr(typ(api.TBool), deep)) + " { " + m.inside(func() string { return m.stats(deep) }) + "} "
		m.loops--
		return s
	case 6:
		if m.loops > 0 {
			return pick(m, "break; ", "continue; ")
		}
	case 7:
		if len(m.res) > 0 {
			return "return " + m.fitting(m.res[0], deep) + "; "
		}
		return pick(m, "get(); ", "return; ")
	}
	return "{ " + m.inside(func() string { return m.stats(deep) }) + "} "
}

func (m *maker) assign(deep int) string {
	t := m.typ(1)
	for range 3 {
		if len(m.known) > 0 {
			v := pick(m, m.known...)
			for _, w := range m.known {
				if w.name == v.name {
					v = w
				}
			}
			switch {
			case v.t.Kind == api.TSlice && m.may():
				return v.name + "[" + m.expr(typ(api.TInt), deep) + "] = " + m.fitting(v.t.Args[0], deep) + "; "
			case v.t.Kind == api.TPtr && v.t.Pkg == m.own():
				if d, _ := kinds.Find(m.us, v.t.Pkg, v.t.Name); len(d.Fields) > 0 {
					f := pick(m, d.Fields...)
					if m.hiddenType(f.Type) {
						continue
					}
					return v.name + "." + f.Name + " = " + m.fitting(f.Type, deep) + "; "
				}
			}
			return v.name + " = " + m.fitting(v.t, deep) + "; "
		}
	}
	if !m.hidden("q") {
		return "q.V = " + m.expr(typ(api.TInt), deep) + "; "
	}
	return m.written(slice(t)) + "{}[0] = " + m.fitting(t, deep) + "; "
}

// heads makes what the package declares, without bodies.
func (m *maker) heads() {
	for i := range 1 + m.upTo(3) {
		name := string(rune('S' + i))
		m.us[0].Decls = append(m.us[0].Decls, api.Decl{Kind: api.DStruct, Name: name}, api.Decl{Kind: api.DIface, Name: "I" + name})
	}
	for i := range m.us[0].Decls {
		d := &m.us[0].Decls[i]
		for k := range m.upTo(4) {
			t := m.typ(1)
			if d.Kind == api.DIface {
				t = fn()
				if m.may() {
					t.Res = []api.Type{m.typ(0)}
				}
			}
			d.Fields = append(d.Fields, api.Field{Name: string(rune('m' + k)), Type: t})
		}
	}
	for _, d := range slices.Clone(m.us[0].Decls) {
		if d.Kind == api.DIface && m.may() {
			m.methods(d)
		}
	}
	for range m.upTo(4) {
		m.us[0].Decls = append(m.us[0].Decls, api.Decl{Kind: api.DVar, Name: m.fresh("g"), Type: m.typ(2)})
	}
	for range m.upTo(3) {
		m.us[0].Decls = append(m.us[0].Decls, api.Decl{Kind: api.DConst, Name: m.fresh("c"), Value: int64(m.upTo(9)) - 4})
	}
	for range 1 + m.upTo(3) {
		t := fn()
		for range m.upTo(4) {
			t.Args = append(t.Args, m.typ(1))
		}
		if m.may() {
			t.Res = []api.Type{m.typ(1)}
		}
		m.us[0].Decls = append(m.us[0].Decls, api.Decl{Kind: api.DFunc, Name: m.fresh("f"), Type: t})
	}
	for _, must := range []api.Type{typ(api.TNone), typ(api.TBool), m.declared(api.DIface)} {
		m.vars = []api.Field{{Name: "A", Type: must}, {Name: pick(m, "B", "S", "T"), Type: pick(m, typ(api.TNone), face("q", "I"))}}
		t := fn(m.typ(1), api.Type{Kind: api.TVar, Name: "A"}, api.Type{Kind: api.TVar, Name: m.vars[1].Name}, m.typ(1))
		t.Res = []api.Type{m.typ(1)}
		m.us[0].Decls = append(m.us[0].Decls, api.Decl{Kind: api.DFunc, Name: m.fresh("h"), Type: t, Fields: m.vars})
		m.vars = nil
	}
}

// methods gives a struct the methods of an interface, where it has no fields of their names.
func (m *maker) methods(d api.Decl) {
	of := m.declared(api.DStruct)
	s, _ := kinds.Find(m.us, of.Pkg, of.Name)
	for _, f := range d.Fields {
		there := func(g api.Field) bool { return g.Name == f.Name }
		if !slices.ContainsFunc(s.Fields, there) && !slices.ContainsFunc(kinds.Methods(m.us, nil, of), there) {
			m.us[0].Decls = append(m.us[0].Decls, api.Decl{Kind: api.DMethod, Name: f.Name, Of: s.Name, Type: f.Type})
		}
	}
}

// text is a package that is right.
func (m *maker) text() string {
	m.heads()
	s := "package a; import q; "
	decls := slices.Clone(m.us[0].Decls)
	for i := range decls {
		k := i + m.upTo(len(decls)-i)
		decls[i], decls[k] = decls[k], decls[i]
	}
	for _, d := range decls {
		s += m.decl(d)
	}
	return s + "func id[A any](x A) A { return x; } func both[A any](x A, y []A) []A { return append(y, x); } func do[A any, B any](f func(A) B, x A) B { return f(x); }"
}

func (m *maker) decl(d api.Decl) string {
	switch d.Kind {
	case api.DConst:
		return "const " + d.Name + " = " + strconv.FormatInt(d.Value, 10) + "; "
	case api.DVar:
		return "var " + d.Name + " " + m.written(d.Type) + pick(m, "", " = "+m.fitting(d.Type, 2)) + "; "
	case api.DStruct:
		s := "type " + d.Name + " struct { "
		for _, f := range d.Fields {
			s += f.Name + " " + m.written(f.Type) + "; "
		}
		return s + "} "
	case api.DIface:
		s := "type " + d.Name + " interface { "
		for _, f := range d.Fields {
			s += f.Name + strings.TrimPrefix(m.written(f.Type), "func") + "; "
		}
		return s + "} "
	case api.DMethod:
		m.known = []variable{{"this", ptr(m.own(), d.Of)}}
		s := "func (this *" + d.Of + ") " + d.Name + m.routine(nil, d.Type, 3) + " "
		m.known = nil
		return s
	}
	m.vars = d.Fields
	s := "func " + d.Name
	for i, v := range d.Fields {
		s += []string{"[", ", "}[min(i, 1)] + v.Name + " "
		switch v.Type.Kind {
		case api.TNone:
			s += "any"
		case api.TBool:
			s += "comparable"
		default:
			s += m.written(v.Type)
		}
	}
	if len(d.Fields) > 0 {
		s += "]"
	}
	var names []string
	for i := range d.Type.Args {
		names = append(names, string(rune('w'+i)))
	}
	s += m.routine(names, d.Type, 3) + " "
	m.vars = nil
	return s
}
