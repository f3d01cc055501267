package inits

import (
	"cmp"
	"slices"

	"mortise/api"
	"mortise/check"
)

// finder goes through a declaration, and finds which symbols of its package it names.
type finder struct {
	pack   *pack
	pkg    string
	facts  []check.Fact // whose places are the nodes' numbers
	locals []string     // the local variables that are known
	found  []symbol
}

func (f *finder) walkAll(nodes []api.Node) {
	for _, n := range nodes {
		f.walk(n)
	}
}

// walk goes through a node: what stands in a type is none of the kinds that name something.
func (f *finder) walk(n api.Node) {
	switch n.Kind {
	case api.NFuncLit, api.NBlock:
		known := len(f.locals)
		f.walkAll(n.Kids)
		f.locals = f.locals[:known]
	case api.NParam:
		f.locals = append(f.locals, n.Text)
	case api.NVar, api.NDefine:
		// A variable is known behind its own statement only.
		f.walkAll(n.Kids)
		f.locals = append(f.locals, n.Text)
	case api.NName:
		f.findName(n)
	case api.NSel:
		f.walkAll(n.Kids)
		f.findMethod(n)
	case api.NMethodExpr:
		f.findMethodExpr(n)
	default:
		f.walkAll(n.Kids)
	}
}

// find keeps a symbol, if the package declares it.
func (f *finder) find(s symbol) {
	if _, is := f.pack.places[s]; is {
		f.found = append(f.found, s)
	}
}

func (f *finder) findName(n api.Node) {
	if !slices.Contains(f.locals, n.Text) {
		f.find(symbol{name: n.Text})
	}
}

// findMethod finds what x.m names: a field is no symbol.
func (f *finder) findMethod(n api.Node) {
	t := f.typeOf(n.Kids[0])
	if t.Kind == api.TPtr && t.Pkg == f.pkg {
		f.find(symbol{of: t.Name, name: n.Text})
	}
}

func (f *finder) findMethodExpr(n api.Node) {
	of := n.Kids[0]
	if of.Pkg == "" {
		f.find(symbol{of: of.Text, name: n.Text})
	}
}

// typeOf is an expression's type; of the name of a package there is no fact, and none.
func (f *finder) typeOf(n api.Node) api.Type {
	at, is := slices.BinarySearchFunc(f.facts, n.At, func(fact check.Fact, at int) int { return cmp.Compare(fact.At, at) })
	if !is {
		return api.Type{}
	}
	return f.facts[at].Type
}
