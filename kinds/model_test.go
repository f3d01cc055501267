package kinds_test

import (
	"slices"
	"strings"

	"mortise/api"
)

// The functions of this file tell the chapter a second time, as its words stand, with no thought of how long it takes.

func modelText(t api.Type) string {
	var args []string
	for _, arg := range t.Args {
		args = append(args, modelText(arg))
	}
	kinds := map[int]string{
		api.TNone: "none", api.TInt: "int", api.TBool: "bool", api.TText: "string", api.TNil: "nil", api.TVar: t.Name,
		api.TPtr: "*" + t.Pkg + "." + t.Name, api.TIface: t.Pkg + "." + t.Name,
		api.TSlice: "[]" + strings.Join(args[:min(1, len(args))], ""), api.TFunc: "func(" + strings.Join(args, ", ") + ")",
	}
	if t.Kind == api.TFunc && len(t.Res) > 0 {
		return kinds[t.Kind] + " " + modelText(t.Res[0])
	}
	return kinds[t.Kind]
}

func modelFind(us []api.Unit, pkg, name string) (api.Decl, bool) {
	for _, u := range us {
		if u.Pkg != pkg {
			continue
		}
		for _, d := range u.Decls {
			if d.Name == name && d.Kind != api.DMethod {
				return d, true
			}
		}
		break
	}
	return api.Decl{}, false
}

// modelFound tells whether a type is a TIface that is found.
func modelFound(us []api.Unit, t api.Type) bool {
	d, ok := modelFind(us, t.Pkg, t.Name)
	return t.Kind == api.TIface && ok && d.Kind == api.DIface
}

func modelMust(vars []api.Field, name string) api.Type {
	for _, v := range vars {
		if v.Name == name {
			return v.Type
		}
	}
	return api.Type{}
}

func modelMethods(us []api.Unit, vars []api.Field, t api.Type) []api.Field {
	var all []api.Field
	switch {
	case t.Kind == api.TPtr:
		i := slices.IndexFunc(us, func(u api.Unit) bool { return u.Pkg == t.Pkg })
		if i < 0 {
			return nil
		}
		for _, d := range us[i].Decls {
			if d.Kind == api.DMethod && d.Of == t.Name {
				all = append(all, api.Field{Name: d.Name, Type: d.Type})
			}
		}
	case modelFound(us, t):
		d, _ := modelFind(us, t.Pkg, t.Name)
		all = d.Fields
	case t.Kind == api.TVar && modelMust(vars, t.Name).Kind == api.TIface:
		return modelMethods(us, nil, modelMust(vars, t.Name))
	}
	return modelSorted(all)
}

// modelSorted takes the least name's first field out of a list till nothing is left.
func modelSorted(all []api.Field) []api.Field {
	left := slices.Clone(all)
	var sorted []api.Field
	for len(left) > 0 {
		least := 0
		for i := range left {
			if left[i].Name < left[least].Name {
				least = i
			}
		}
		sorted = append(sorted, left[least])
		left = slices.Delete(left, least, least+1)
	}
	return sorted
}

// modelHas tells whether a type has each method that another one has, as Methods tells them.
func modelHas(us []api.Unit, vars []api.Field, from, to api.Type) bool {
	have := modelMethods(us, vars, from)
	for _, want := range modelMethods(us, vars, to) {
		if !slices.ContainsFunc(have, func(m api.Field) bool { return m.Name == want.Name && same(m.Type, want.Type) }) {
			return false
		}
	}
	return true
}

func modelFits(us []api.Unit, vars []api.Field, from, to api.Type) bool {
	if from.Kind == api.TNone || to.Kind == api.TNone {
		return false
	}
	if same(from, to) {
		return true
	}
	if from.Kind == api.TNil && slices.Contains([]int{api.TPtr, api.TSlice, api.TFunc, api.TIface}, to.Kind) {
		return true
	}
	if !modelFound(us, to) || from.Kind != api.TPtr && from.Kind != api.TVar && !modelFound(us, from) {
		return false
	}
	return modelHas(us, vars, from, to)
}

func modelComparable(vars []api.Field, t api.Type) bool {
	if t.Kind == api.TVar {
		return modelMust(vars, t.Name).Kind == api.TBool
	}
	return slices.Contains([]int{api.TInt, api.TBool, api.TText, api.TPtr, api.TIface}, t.Kind)
}

func modelPut(t api.Type, names []string, ts []api.Type) api.Type {
	if i := slices.Index(names, t.Name); t.Kind == api.TVar && i >= 0 && i < len(ts) {
		return ts[i]
	}
	t.Args, t.Res = slices.Clone(t.Args), slices.Clone(t.Res)
	for i := range t.Args {
		t.Args[i] = modelPut(t.Args[i], names, ts)
	}
	for i := range t.Res {
		t.Res[i] = modelPut(t.Res[i], names, ts)
	}
	return t
}

// modelPairs are all pairs that are walked of which the first is a type variable.
func modelPairs(params, args []api.Type) [][2]api.Type {
	var all [][2]api.Type
	for i := range min(len(params), len(args)) {
		p, a := params[i], args[i]
		if p.Kind == api.TVar {
			all = append(all, [2]api.Type{p, a})
		}
		if p.Kind == a.Kind && (p.Kind == api.TSlice || p.Kind == api.TFunc) {
			all = slices.Concat(all, modelPairs(p.Args, a.Args), modelPairs(p.Res, a.Res))
		}
	}
	return all
}

func modelInfer(names []string, params, args []api.Type) ([]api.Type, bool) {
	pairs := modelPairs(params, args)
	var found []api.Type
	for _, name := range names {
		i := slices.IndexFunc(pairs, func(pair [2]api.Type) bool { return pair[0].Name == name })
		if i < 0 || pairs[i][1].Kind == api.TNil || pairs[i][1].Kind == api.TNone {
			return nil, false
		}
		found = append(found, pairs[i][1])
	}
	return found, true
}

// maker makes types and units.
type maker struct{ state uint64 }

// upTo is a number below n, the same ones in each run.
func (m *maker) upTo(n int) int {
	m.state = m.state*6364136223846793005 + 1442695040888963407
	return int(m.state >> 33 % uint64(n))
}

func pick[T any](m *maker, of ...T) T { return of[m.upTo(len(of))] }

// some is a list of fewer than n parts.
func some[T any](m *maker, n int, part func() T) []T {
	var made []T
	for range m.upTo(n) {
		made = append(made, part())
	}
	return made
}

func (m *maker) pkg() string     { return pick(m, "p", "p", "p", "q", "") }
func (m *maker) name() string    { return pick(m, "T", "U", "I", "J", "K") }
func (m *maker) varName() string { return pick(m, "A", "B", "C", "D") }

// typ is a type in which others stand so deep at most.
func (m *maker) typ(deep int) api.Type {
	part := func() api.Type { return m.typ(deep - 1) }
	switch kind := m.upTo(16); {
	case kind <= api.TNil:
		return typ(kind)
	case kind < 7 || deep == 0:
		return tvar(m.varName())
	case kind < 9:
		return ptr(m.pkg(), m.name())
	case kind < 11:
		return face(m.pkg(), m.name())
	case kind < 13:
		return slice(part())
	case kind < 15:
		return api.Type{Kind: api.TFunc, Args: some(m, 4, part), Res: some(m, 2, part)}
	}
	return api.Type{Kind: m.upTo(12), Pkg: m.pkg(), Name: pick(m, m.name(), m.varName(), ""), Args: some(m, 3, part), Res: some(m, 3, part)}
}

// named is a type of a kind that may have methods.
func (m *maker) named() api.Type {
	return pick(m, ptr(m.pkg(), m.name()), face(m.pkg(), m.name()), tvar(m.varName()))
}

// sig is the type of a method, one of few, so that many are the same.
func (m *maker) sig() api.Type {
	return pick(m, proc(), proc(), proc(ofInt()), fn(face("p", "I")), fn(slice(tvar("A")), ofBool()))
}

func (m *maker) methodName() string { return pick(m, "m", "n", "o", "M") }

func (m *maker) field() api.Field { return field(m.methodName(), m.sig()) }

func (m *maker) decl() api.Decl {
	switch m.upTo(10) {
	case 0:
		return structOf(m.name())
	case 1, 2, 3, 4, 5:
		return method(m.name(), m.methodName(), m.sig())
	case 6, 7, 8:
		return iface(m.name(), some(m, 3, m.field)...)
	}
	return api.Decl{Kind: m.upTo(8), Name: m.name(), Of: m.name(), Value: int64(m.upTo(9)), Type: m.typ(1), Fields: some(m, 3, m.field)}
}

func (m *maker) unit() api.Unit {
	return api.Unit{Pkg: m.pkg(), Decls: some(m, 30, m.decl)}
}

// must is what a type variable is, of one of the few names that there are.
func (m *maker) must() api.Field {
	return field(m.varName(), pick(m, typ(api.TNone), ofBool(), face(m.pkg(), m.name()), face(m.pkg(), m.name()), m.typ(1)))
}

// like is a type that is as another one, but for variables, in whose places stands something, and for a few turned things.
func (m *maker) like(t api.Type) api.Type {
	if t.Kind == api.TVar || m.upTo(20) == 0 {
		return m.typ(1)
	}
	t.Args, t.Res = slices.Clone(t.Args), slices.Clone(t.Res)
	for i := range t.Args {
		t.Args[i] = m.like(t.Args[i])
	}
	for i := range t.Res {
		t.Res[i] = m.like(t.Res[i])
	}
	return t
}
