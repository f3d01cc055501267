package inits

import (
	"mortise/api"
	"mortise/check"
)

// symbol is a var, a function, or a method of a struct.
type symbol struct {
	of   string // a method's struct; of all else nothing
	name string
}

// pack is a package that is right.
type pack struct {
	vars   []api.Node
	places map[symbol]int // where each symbol is declared
	named  [][]symbol     // what the declarations name of the package's own symbols, by their places
}

// newPack is a package, 0 and OK; else none, and layer 10's place and error.
func newPack(n api.Node, us []api.Unit) (*pack, int, api.Errno) {
	if _, _, at, err := check.Facts(n, us); err != api.OK {
		return nil, at, err
	}
	// A tree may have one place at several nodes, so that facts do not tell which of them they are of: those of a tree whose places are numbers do.
	next := 0
	tree := numbered(n, &next)
	_, facts, _, _ := check.Facts(tree, us)
	p := &pack{places: map[symbol]int{}}
	for i, d := range n.Kids {
		p.declare(i, d)
	}
	for _, d := range tree.Kids {
		f := finder{pack: p, pkg: n.Text, facts: facts}
		f.walkAll(d.Kids)
		p.named = append(p.named, f.found)
	}
	return p, 0, api.OK
}

// numbered is a tree in which each node's place is its number, a node ahead of its kids.
func numbered(n api.Node, next *int) api.Node {
	n.At = *next
	*next++
	kids := make([]api.Node, len(n.Kids))
	for i, kid := range n.Kids {
		kids[i] = numbered(kid, next)
	}
	n.Kids = kids
	return n
}

// declare makes a declaration's symbol known, if it has one that can stand in an expression and leads to others.
func (p *pack) declare(at int, d api.Node) {
	switch d.Kind {
	case api.NVar:
		p.vars = append(p.vars, d)
		p.places[symbol{name: d.Text}] = at
	case api.NFunc:
		p.places[symbol{name: d.Text}] = at
	case api.NMethod:
		pointer := d.Kids[0].Kids[0]
		p.places[symbol{of: pointer.Kids[0].Text, name: d.Text}] = at
	}
}

// needs are the numbers of the vars that a var needs.
func (p *pack) needs(v api.Node) []int {
	seen := map[symbol]int{}
	p.see(p.places[symbol{name: v.Text}], seen)
	var needs []int
	for i, other := range p.vars {
		if _, was := seen[symbol{name: other.Text}]; was {
			needs = append(needs, i)
		}
	}
	return needs
}

// see sees what a declaration names, what that names, and so on: of each symbol it keeps where it is declared.
func (p *pack) see(at int, seen map[symbol]int) {
	for _, s := range p.named[at] {
		if _, was := seen[s]; !was {
			seen[s] = p.places[s]
			p.see(seen[s], seen)
		}
	}
}
