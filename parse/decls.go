package parse

import "mortise/api"

func (p *parser) file() api.Node {
	n := api.Node{Kind: api.NFile, At: p.want("package").At}
	n.Text = p.name().Text
	p.want(";")
	for p.skip("import") {
		name := p.name()
		p.want(";")
		n.Kids = append(n.Kids, api.Node{Kind: api.NImport, Text: name.Text, At: name.At})
	}
	for p.token().Kind != api.TokEnd {
		n.Kids = append(n.Kids, p.decl())
	}
	return n
}

func (p *parser) decl() api.Node {
	switch p.mark() {
	case "const":
		return p.constant()
	case "var":
		return p.variable()
	case "type":
		return p.declaredType()
	case "func":
		return p.declaredFunc()
	}
	p.refuse()
	return api.Node{}
}

func (p *parser) constant() api.Node {
	p.want("const")
	name := p.name()
	p.want("=")
	minus := p.skip("-")
	n := p.wantKind(api.TokInt).N
	if minus {
		n = -n
	}
	p.want(";")
	return api.Node{Kind: api.NConst, Text: name.Text, N: n, At: name.At}
}

// variable reads a declaration, which is a statement too.
func (p *parser) variable() api.Node {
	p.want("var")
	n := p.named(api.NVar)
	if p.skip("=") {
		n.Kids = append(n.Kids, p.expr())
	}
	p.want(";")
	return n
}

// named reads a name and its type.
func (p *parser) named(kind int) api.Node {
	name := p.name()
	return api.Node{Kind: kind, Text: name.Text, At: name.At, Kids: []api.Node{p.typeOf()}}
}

func (p *parser) param() api.Node {
	return p.named(api.NParam)
}

func (p *parser) declaredType() api.Node {
	p.want("type")
	name := p.name()
	n := api.Node{Text: name.Text, At: name.At}
	var part func() api.Node
	switch p.mark() {
	case "struct":
		n.Kind, part = api.NStruct, p.field
	case "interface":
		n.Kind, part = api.NIface, p.sig
	default:
		p.refuse()
	}
	p.take()
	p.enter("{")
	for p.mark() != "}" {
		n.Kids = append(n.Kids, part())
	}
	p.leave("}")
	return n
}

func (p *parser) field() api.Node {
	n := p.named(api.NField)
	p.want(";")
	return n
}

func (p *parser) sig() api.Node {
	name := p.name()
	n := api.Node{Kind: api.NSig, Text: name.Text, At: name.At}
	p.head(&n, p.typeOf)
	p.want(";")
	return n
}

func (p *parser) declaredFunc() api.Node {
	p.want("func")
	n := api.Node{Kind: api.NFunc}
	if p.mark() == "(" {
		n = api.Node{Kind: api.NMethod, Kids: []api.Node{p.receiver()}}
	}
	name := p.name()
	n.Text, n.At = name.Text, name.At
	if n.Kind == api.NFunc && p.mark() == "[" {
		p.enter("[")
		n.Kids = p.list(p.typeVar)
		p.leave("]")
	}
	p.head(&n, p.param)
	n.Kids = append(n.Kids, p.block())
	return n
}

func (p *parser) receiver() api.Node {
	p.enter("(")
	name := p.name()
	star := p.want("*")
	of := p.name()
	p.leave(")")
	typeName := api.Node{Kind: api.NTypeName, Text: of.Text, At: of.At}
	pointer := api.Node{Kind: api.NPtr, At: star.At, Kids: []api.Node{typeName}}
	return api.Node{Kind: api.NParam, Text: name.Text, At: name.At, Kids: []api.Node{pointer}}
}

func (p *parser) typeVar() api.Node {
	name := p.name()
	n := api.Node{Kind: api.NTypeVar, Text: name.Text, At: name.At}
	switch {
	case p.skip("any"):
	case p.skip("comparable"):
		n.N = 1
	default:
		n.N = 2
		n.Kids = []api.Node{p.typeName()}
	}
	return n
}
