package prog

import (
	"strconv"

	"mortise/api"
)

// names are those of a package's code: of what begins its vars, of functions and methods, of functions' literals.
func (p Pack) names() []string {
	pkg := p.Unit.Pkg
	names := []string{pkg + "#"}
	for _, d := range p.Unit.Decls {
		switch d.Kind {
		case api.DFunc:
			names = append(names, pkg+"."+d.Name)
		case api.DMethod:
			names = append(names, pkg+"."+d.Of+"."+d.Name)
		}
	}
	for _, at := range literals(p.Tree) {
		names = append(names, pkg+"@"+strconv.Itoa(at))
	}
	return names
}

// literals are the places of the functions' literals in a tree: they rise, since kids stand in the text's order, and a literal's place is that of its first token.
func literals(n api.Node) []int {
	var places []int
	if n.Kind == api.NFuncLit {
		places = append(places, n.At)
	}
	for _, kid := range n.Kids {
		places = append(places, literals(kid)...)
	}
	return places
}
