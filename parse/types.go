package parse

import "mortise/api"

// typeOf reads a type.
func (p *parser) typeOf() api.Node {
	switch p.mark() {
	case "int", "bool", "string":
		word := p.take()
		return api.Node{Kind: api.NTypeName, Text: word.Text, At: word.At}
	case "*":
		at := p.take().At
		return api.Node{Kind: api.NPtr, At: at, Kids: []api.Node{p.typeName()}}
	case "[":
		at := p.enter("[").At
		p.leave("]")
		return api.Node{Kind: api.NSliceOf, At: at, Kids: []api.Node{p.typeOf()}}
	case "func":
		n := api.Node{Kind: api.NFuncOf, At: p.take().At}
		p.head(&n, p.typeOf)
		return n
	}
	return p.typeName()
}

// beginsType tells whether a type may begin with the token that stands here.
func (p *parser) beginsType() bool {
	switch p.mark() {
	case "int", "bool", "string", "*", "[", "func":
		return true
	}
	return p.token().Kind == api.TokName
}

// typeName reads a TYPENAME.
func (p *parser) typeName() api.Node {
	name := p.name()
	n := api.Node{Kind: api.NTypeName, Text: name.Text, At: name.At}
	if p.skip(".") {
		n.Pkg, n.Text = name.Text, p.name().Text
	}
	return n
}

// head reads what a function takes, and its result's type if there is one, into its node.
func (p *parser) head(n *api.Node, part func() api.Node) {
	n.Kids = append(n.Kids, p.within("(", ")", part)...)
	if p.beginsType() {
		n.Kids = append(n.Kids, p.typeOf())
		n.N = 1
	}
}
