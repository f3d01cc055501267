package check

import (
	"slices"
	"strings"

	"mortise/api"
	"mortise/export"
	"mortise/kinds"
)

// checkNames wants the package's names to be unlike, and declares them: what they mean hangs on no order.
func (c *checker) checkNames() {
	named := slices.Clone(c.imports)
	for _, n := range c.decls {
		if n.Kind != api.NMethod {
			named = append(named, n)
		}
		c.unit().Decls = append(c.unit().Decls, declared(n))
	}
	checkUnlike(named)
}

// declared is what a node declares, as far as it can be told without its types.
func declared(n api.Node) api.Decl {
	switch n.Kind {
	case api.NConst:
		return api.Decl{Kind: api.DConst, Name: n.Text, Value: n.N}
	case api.NVar:
		return api.Decl{Kind: api.DVar, Name: n.Text}
	case api.NStruct:
		return api.Decl{Kind: api.DStruct, Name: n.Text}
	case api.NIface:
		return api.Decl{Kind: api.DIface, Name: n.Text}
	case api.NFunc:
		return api.Decl{Kind: api.DFunc, Name: n.Text}
	}
	return api.Decl{Kind: api.DMethod, Name: n.Text, Of: receiverStruct(n)}
}

// receiverStruct is the name of the struct that a method belongs to.
func receiverStruct(method api.Node) string {
	pointer := method.Kids[0].Kids[0]
	return pointer.Kids[0].Text
}

// checkUnlike wants several nodes to have unlike names.
func checkUnlike(nodes []api.Node) {
	places := make(map[string]int, len(nodes))
	for i, n := range nodes {
		_, twice := places[n.Text]
		want(!twice, n, api.ErrTwice)
		places[n.Text] = i
	}
}

func (c *checker) checkImports() {
	for _, n := range c.imports {
		want(n.Text != c.unit().Pkg, n, api.ErrName)
		at := slices.IndexFunc(c.us, func(u api.Unit) bool { return u.Pkg == n.Text })
		want(at >= 0, n, api.ErrName)
		c.unit().Imports = append(c.unit().Imports, api.Import{Name: strings.Clone(n.Text), Hash: export.Hash(c.us[at])})
	}
}

// isImport tells whether one of the package's names is that of an import.
func (c *checker) isImport(name string) bool {
	return slices.ContainsFunc(c.imports, func(n api.Node) bool { return n.Text == name })
}

// declaration is what a name means among those of a package: an import's is declared, but as nothing.
func (c *checker) declaration(n api.Node, pkg, name string) api.Decl {
	if pkg == c.unit().Pkg && c.isImport(name) {
		return api.Decl{}
	}
	d, ok := kinds.Find(c.us, pkg, name)
	want(ok && c.mayName(pkg, name), n, api.ErrName)
	return d
}

// mayName tells whether what a package declares by a name, or a struct of it has, can be named here.
func (c *checker) mayName(pkg, name string) bool {
	return pkg == c.unit().Pkg || exported(name)
}

func exported(name string) bool {
	return name != "" && 'A' <= name[0] && name[0] <= 'Z'
}

// find is the first field of a list that has a name, and whether there is one.
func find(fields []api.Field, name string) (api.Field, bool) {
	at := slices.IndexFunc(fields, func(f api.Field) bool { return f.Name == name })
	if at < 0 {
		return api.Field{}, false
	}
	return fields[at], true
}
