package kinds

import (
	"slices"
	"strings"

	"mortise/api"
)

// Find is what a package declares by a name, and whether there is such a thing; methods are not found.
func Find(us []api.Unit, pkg, name string) (api.Decl, bool) {
	d, ok := find(us, pkg, name)
	return copiedDecl(d), ok
}

func find(us []api.Unit, pkg, name string) (api.Decl, bool) {
	return first(unitOf(us, pkg).Decls, func(d api.Decl) bool {
		return d.Name == name && d.Kind != api.DMethod
	})
}

func unitOf(us []api.Unit, pkg string) api.Unit {
	u, _ := first(us, func(u api.Unit) bool { return u.Pkg == pkg })
	return u
}

func copiedDecl(d api.Decl) api.Decl {
	return api.Decl{
		Kind:   d.Kind,
		Name:   strings.Clone(d.Name),
		Of:     strings.Clone(d.Of),
		Value:  d.Value,
		Type:   copied(d.Type),
		Fields: each(d.Fields, copiedField),
	}
}

func copiedField(f api.Field) api.Field {
	return api.Field{Name: strings.Clone(f.Name), Type: copied(f.Type)}
}

// Methods are a type's methods, by rising names.
func Methods(us []api.Unit, vars []api.Field, t api.Type) []api.Field {
	return each(sortedMethods(us, vars, t), copiedField)
}

// sortedMethods is a list of its own, but the types in it are still those of the units.
func sortedMethods(us []api.Unit, vars []api.Field, t api.Type) []api.Field {
	methods := methodsOf(us, vars, t)
	slices.SortStableFunc(methods, func(a, b api.Field) int { return strings.Compare(a.Name, b.Name) })
	return methods
}

func methodsOf(us []api.Unit, vars []api.Field, t api.Type) []api.Field {
	switch t.Kind {
	case api.TPtr:
		return structMethods(us, t)
	case api.TIface:
		return ifaceMethods(us, t)
	case api.TVar:
		// What it must be is no variable itself: only an interface has methods to lend.
		return ifaceMethods(us, mustBe(vars, t.Name))
	}
	return nil
}

func structMethods(us []api.Unit, t api.Type) []api.Field {
	var methods []api.Field
	for _, d := range unitOf(us, t.Pkg).Decls {
		if d.Kind == api.DMethod && d.Of == t.Name {
			methods = append(methods, api.Field{Name: d.Name, Type: d.Type})
		}
	}
	return methods
}

func ifaceMethods(us []api.Unit, t api.Type) []api.Field {
	d, _ := ifaceOf(us, t)
	// A list of its own, since it is sorted.
	return slices.Clone(d.Fields)
}

// ifaceOf is the interface that a type names, and whether there is one: what is declared by that name may be something else.
func ifaceOf(us []api.Unit, t api.Type) (api.Decl, bool) {
	if t.Kind != api.TIface {
		return api.Decl{}, false
	}
	d, ok := find(us, t.Pkg, t.Name)
	if !ok || d.Kind != api.DIface {
		return api.Decl{}, false
	}
	return d, true
}

// Fits tells whether a value of one type may stand where one of another is wanted.
func Fits(us []api.Unit, vars []api.Field, from, to api.Type) bool {
	switch {
	case from.Kind == api.TNone:
		return false
	case Same(from, to):
		return true
	case from.Kind == api.TNil:
		return to.Kind == api.TPtr || to.Kind == api.TSlice || to.Kind == api.TFunc || to.Kind == api.TIface
	}
	wanted, ok := ifaceOf(us, to)
	return ok && mayHaveMethods(us, from) && haveAll(sortedMethods(us, vars, from), wanted.Fields)
}

// mayHaveMethods tells whether a type is of a kind that can have methods, though it may have none.
func mayHaveMethods(us []api.Unit, t api.Type) bool {
	_, ok := ifaceOf(us, t)
	return ok || t.Kind == api.TPtr || t.Kind == api.TVar
}

// haveAll tells whether there is each wanted method in a sorted list.
func haveAll(methods, wanted []api.Field) bool {
	_, lacks := first(wanted, func(w api.Field) bool { return !has(methods, w) })
	return !lacks
}

func has(methods []api.Field, wanted api.Field) bool {
	at, _ := slices.BinarySearchFunc(methods, wanted.Name, func(m api.Field, name string) int {
		return strings.Compare(m.Name, name)
	})
	for _, m := range methods[at:] {
		if m.Name != wanted.Name {
			return false
		}
		if Same(m.Type, wanted.Type) {
			return true
		}
	}
	return false
}
