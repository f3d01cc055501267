package eval

import (
	"slices"
	"strconv"

	"mortise/api"
	"mortise/check"
	"mortise/prog"
)

// maker makes what is run out of a package's text.
type maker struct {
	*program
	unit     api.Unit
	facts    map[int]check.Fact // by places
	typeVars []string           // that are known
	scopes   [][]string         // the variables that are known: those of the scopes about a place, the innermost one's last
}

// Kinds of functions that stand for parts of a text.
type (
	expr  func(*call) value
	stat  func(*call) after
	place func(*call) *value
)

func newMaker(p *program, pack prog.Pack) *maker {
	m := &maker{program: p, unit: pack.Unit, facts: map[int]check.Fact{}}
	for _, f := range pack.Facts {
		m.facts[f.At] = f
	}
	return m
}

// fillAll makes the bodies of a package's functions and methods.
func (m *maker) fillAll(tree api.Node) {
	for _, n := range tree.Kids {
		switch n.Kind {
		case api.NFunc:
			m.typeVars = textsOf(n.Kids, api.NTypeVar)
			m.fill(m.routines[symbol{pkg: m.unit.Pkg, name: n.Text}], n)
			m.typeVars = nil
		case api.NMethod:
			of := n.Kids[0].Kids[0].Kids[0].Text
			m.fill(m.routines[symbol{pkg: m.unit.Pkg, of: of, name: n.Text}], n)
		}
	}
}

// beginning is what begins the package's vars.
func (m *maker) beginning(pack prog.Pack) beginning {
	var vars []api.Node
	for _, n := range pack.Tree.Kids {
		if n.Kind == api.NVar {
			vars = append(vars, n)
		}
	}
	b := beginning{need: m.needOf(m.unit.Pkg + "#")}
	for _, i := range pack.Vars {
		v := m.vars[symbol{pkg: m.unit.Pkg, name: vars[i].Text}]
		first := m.expr(vars[i].Kids[1])
		b.steps = append(b.steps, func() { *v = first(&call{}) })
	}
	return b
}

// fill makes the body of a function, a method or a function's literal.
func (m *maker) fill(made *routine, n api.Node) {
	params := textsOf(n.Kids, api.NParam)
	made.cost = 4*len(textsOf(n.Kids, api.NTypeVar)) + 2*len(params)
	block := n.Kids[len(n.Kids)-1]
	made.body, made.size = m.within(params, block.Kids)
}

// textsOf are the texts of the nodes of a kind.
func textsOf(nodes []api.Node, kind int) []string {
	var texts []string
	for _, n := range nodes {
		if n.Kind == kind {
			texts = append(texts, n.Text)
		}
	}
	return texts
}

// within makes statements that stand in a scope of their own, in which some variables are known ahead of them; and tells how many there are in the end.
func (m *maker) within(known []string, nodes []api.Node) (stat, int) {
	about := m.scopes
	m.scopes = append(m.scopes, known)
	body := m.stats(nodes)
	size := len(m.scopes[len(about)])
	m.scopes = about
	return body, size
}

// declare makes a variable known in the innermost scope, and tells its place there.
func (m *maker) declare(name string) int {
	inner := &m.scopes[len(m.scopes)-1]
	*inner = append(*inner, name)
	return len(*inner) - 1
}

// known is how many variables are known, hidden ones too.
func (m *maker) known() int {
	count := 0
	for _, names := range m.scopes {
		count += len(names)
	}
	return count
}

// local is the variable of a function that a name means, if it means one.
func (m *maker) local(name string) (place, bool) {
	for i, names := range slices.Backward(m.scopes) {
		if at := slices.Index(names, name); at >= 0 {
			return variable(len(m.scopes)-1-i, at), true
		}
	}
	return nil, false
}

// variable is the variable at a place of the scope that stands so many scopes out.
func variable(out, at int) place {
	return func(c *call) *value {
		s := c.scope
		for range out {
			s = s.about
		}
		return s.vars[at]
	}
}

// isPackage tells whether what stands ahead of a point is the name of a package.
func (m *maker) isPackage(n api.Node) bool {
	if n.Kind != api.NName || !slices.ContainsFunc(m.unit.Imports, func(i api.Import) bool { return i.Name == n.Text }) {
		return false
	}
	_, hidden := m.local(n.Text)
	return !hidden
}

// named is what a package declares that an expression names, if it names that.
func (m *maker) named(n api.Node) (symbol, bool) {
	switch {
	case n.Kind == api.NSel && m.isPackage(n.Kids[0]):
		return symbol{pkg: n.Kids[0].Text, name: n.Text}, true
	case n.Kind == api.NName:
		_, hidden := m.local(n.Text)
		return symbol{pkg: m.unit.Pkg, name: n.Text}, !hidden
	}
	return symbol{}, false
}

// literalName is the name of a function's literal.
func (m *maker) literalName(n api.Node) string {
	return m.unit.Pkg + "@" + strconv.Itoa(n.At)
}

// typeOf is the type that a node means, as far as facts tell of types.
func (m *maker) typeOf(n api.Node) api.Type {
	switch n.Kind {
	case api.NPtr:
		return api.Type{Kind: api.TPtr}
	case api.NSliceOf:
		return api.Type{Kind: api.TSlice}
	case api.NFuncOf:
		return api.Type{Kind: api.TFunc}
	}
	switch n.Text {
	case "int":
		return api.Type{Kind: api.TInt}
	case "bool":
		return api.Type{Kind: api.TBool}
	case "string":
		return api.Type{Kind: api.TText}
	}
	if n.Pkg == "" && slices.Contains(m.typeVars, n.Text) {
		return api.Type{Kind: api.TVar, Name: n.Text}
	}
	return api.Type{Kind: api.TIface}
}

// kindOf is the kind of a type, of a type variable that of what was put in.
func (m *maker) kindOf(t api.Type) func(*call) int {
	if t.Kind != api.TVar {
		return func(*call) int { return t.Kind }
	}
	at := slices.Index(m.typeVars, t.Name)
	return func(c *call) int { return c.kinds[at] }
}
