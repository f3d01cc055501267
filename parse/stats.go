package parse

import "mortise/api"

func (p *parser) block() api.Node {
	n := api.Node{Kind: api.NBlock, At: p.enter("{").At}
	for p.mark() != "}" {
		n.Kids = append(n.Kids, p.stat())
	}
	p.leave("}")
	return n
}

func (p *parser) stat() api.Node {
	switch p.mark() {
	case "var":
		return p.variable()
	case "if":
		return p.branch()
	case "for":
		return p.loop()
	case "break":
		return p.leap(api.NBreak)
	case "continue":
		return p.leap(api.NContinue)
	case "return":
		return p.giveBack()
	case "{":
		return p.block()
	}
	if p.defines() {
		return p.define()
	}
	return p.simple()
}

func (p *parser) branch() api.Node {
	at := p.want("if").At
	n := api.Node{Kind: api.NIf, At: at, Kids: []api.Node{p.expr(), p.block()}}
	if p.skip("else") {
		n.Kids = append(n.Kids, p.otherwise())
	}
	return n
}

// otherwise reads what stands behind else.
func (p *parser) otherwise() api.Node {
	if p.mark() == "if" {
		return p.branch()
	}
	return p.block()
}

func (p *parser) loop() api.Node {
	n := api.Node{Kind: api.NFor, At: p.want("for").At}
	if p.mark() != "{" {
		n.Kids = append(n.Kids, p.expr())
		n.N = 1
	}
	n.Kids = append(n.Kids, p.block())
	return n
}

// leap reads a statement that is a word alone.
func (p *parser) leap(kind int) api.Node {
	at := p.take().At
	p.want(";")
	return api.Node{Kind: kind, At: at}
}

func (p *parser) giveBack() api.Node {
	n := api.Node{Kind: api.NReturn, At: p.want("return").At}
	if p.mark() != ";" {
		n.Kids = append(n.Kids, p.expr())
	}
	p.want(";")
	return n
}

// defines tells whether a name and := stand here.
func (p *parser) defines() bool {
	if p.token().Kind != api.TokName {
		return false
	}
	// There is one behind it, since the last token is no name.
	behind := p.tokens[p.here+1]
	return behind.Kind == api.TokSign && behind.Text == ":="
}

func (p *parser) define() api.Node {
	name := p.name()
	p.want(":=")
	n := api.Node{Kind: api.NDefine, Text: name.Text, At: name.At, Kids: []api.Node{p.expr()}}
	p.want(";")
	return n
}

// simple reads a statement that begins with an expression.
func (p *parser) simple() api.Node {
	kids := []api.Node{p.expr()}
	if p.mark() != "=" {
		return api.Node{Kind: api.NDo, At: p.want(";").At, Kids: kids}
	}
	at := p.take().At
	kids = append(kids, p.expr())
	p.want(";")
	return api.Node{Kind: api.NAssign, At: at, Kids: kids}
}
