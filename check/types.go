package check

import (
	"slices"

	"mortise/api"
)

// ofKind is a type that is told by its kind alone.
func ofKind(kind int) api.Type {
	return api.Type{Kind: kind}
}

// typeOf is the type that a node means; of a field or a parameter it is its own.
func (c *checker) typeOf(n api.Node) api.Type {
	switch n.Kind {
	case api.NField, api.NParam:
		return c.typeOf(n.Kids[0])
	case api.NPtr:
		return c.pointerTo(n.Kids[0])
	case api.NSliceOf:
		return api.Type{Kind: api.TSlice, Args: c.typesOf(n.Kids)}
	case api.NFuncOf, api.NSig:
		result := len(n.Kids) - int(n.N)
		return c.funcOf(n, n.Kids[:result], n.Kids[result:])
	}
	return c.namedType(n)
}

func (c *checker) typesOf(nodes []api.Node) []api.Type {
	var types []api.Type
	for _, n := range nodes {
		types = append(types, c.typeOf(n))
	}
	return types
}

// funcOf is the type of a function that has such parameters and such a result.
func (c *checker) funcOf(n api.Node, params, result []api.Node) api.Type {
	want(len(params) <= api.MaxList, n, api.ErrType)
	return api.Type{Kind: api.TFunc, Args: c.typesOf(params), Res: c.typesOf(result)}
}

func (c *checker) namedType(n api.Node) api.Type {
	switch {
	case n.Text == "int":
		return ofKind(api.TInt)
	case n.Text == "bool":
		return ofKind(api.TBool)
	case n.Text == "string":
		return ofKind(api.TText)
	case c.isTypeVar(n):
		return api.Type{Kind: api.TVar, Name: n.Text}
	}
	return c.ifaceOf(n)
}

// isTypeVar tells whether a type's name is that of a type variable, which hides the package's names.
func (c *checker) isTypeVar(n api.Node) bool {
	_, is := find(c.vars, n.Text)
	return is && n.Pkg == ""
}

// ifaceOf is the interface that a type's name means.
func (c *checker) ifaceOf(n api.Node) api.Type {
	pkg, d := c.typeDecl(n)
	want(d.Kind == api.DIface, n, api.ErrType)
	return api.Type{Kind: api.TIface, Pkg: pkg, Name: n.Text}
}

// pointerTo is the pointer to the struct that a type's name means.
func (c *checker) pointerTo(n api.Node) api.Type {
	pkg, d := c.typeDecl(n)
	want(d.Kind == api.DStruct, n, api.ErrType)
	return api.Type{Kind: api.TPtr, Pkg: pkg, Name: n.Text}
}

// typeDecl is what a type's name means, and in which package: a type variable is neither an interface nor a struct, whatever else has its name.
func (c *checker) typeDecl(n api.Node) (string, api.Decl) {
	want(!c.isTypeVar(n), n, api.ErrType)
	pkg := c.unit().Pkg
	if n.Pkg != "" {
		want(c.isImport(n.Pkg), n, api.ErrName)
		pkg = n.Pkg
	}
	return pkg, c.declaration(n, pkg, n.Text)
}

// elementOf is the type of a slice's elements, and whether the type is a slice's.
func elementOf(t api.Type) (api.Type, bool) {
	if t.Kind != api.TSlice || len(t.Args) == 0 {
		return api.Type{}, false
	}
	return t.Args[0], true
}

// partsOf is how many types a type is made of, itself too.
func partsOf(t api.Type) int {
	parts := 1
	for _, part := range t.Args {
		parts += partsOf(part)
	}
	for _, part := range t.Res {
		parts += partsOf(part)
	}
	return parts
}

// hasVar tells whether a type variable stands in a type, or is it.
func hasVar(t api.Type) bool {
	return t.Kind == api.TVar || slices.ContainsFunc(t.Args, hasVar) || slices.ContainsFunc(t.Res, hasVar)
}
