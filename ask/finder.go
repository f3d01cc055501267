package ask

import (
	"cmp"
	"slices"

	"mortise/api"
	"mortise/check"
	"mortise/kinds"
)

// finder goes through a package's tree, and finds what it names of other packages.
type finder struct {
	us    []api.Unit
	facts []check.Fact
	found []outer
}

// outer is a declaration of another package.
type outer struct {
	pkg  string
	decl api.Decl
}

// walk goes through a node, and tells whether all that is named there can be outside: consts and questions.
func (f *finder) walk(n api.Node) bool {
	switch {
	case n.Kind == api.NTypeName && n.Pkg != "":
		return false
	case n.Kind == api.NSel && f.isPackage(n.Kids[0]):
		return f.find(n.Kids[0].Text, n.Text)
	}
	return !slices.ContainsFunc(n.Kids, func(kid api.Node) bool { return !f.walk(kid) })
}

// isPackage tells whether what stands ahead of a point is the name of a package: of that alone there is no fact.
func (f *finder) isPackage(n api.Node) bool {
	_, is := slices.BinarySearchFunc(f.facts, n.At, func(fact check.Fact, at int) int { return cmp.Compare(fact.At, at) })
	return !is
}

// find keeps a declaration of another package, if it can be outside.
func (f *finder) find(pkg, name string) bool {
	d, _ := kinds.Find(f.us, pkg, name)
	f.found = append(f.found, outer{pkg: pkg, decl: d})
	return d.Kind == api.DConst || isOpen(d)
}
