package parse

import "mortise/api"

// first reads what an expression may begin with, but for the signs ahead.
func (p *parser) first() api.Node {
	switch token := p.token(); token.Kind {
	case api.TokInt:
		return api.Node{Kind: api.NInt, N: token.N, At: p.take().At}
	case api.TokText:
		return api.Node{Kind: api.NText, Text: token.Text, At: p.take().At}
	case api.TokName:
		return p.plainName()
	}
	return p.firstMark()
}

// firstMark is first of a word or a sign.
func (p *parser) firstMark() api.Node {
	switch p.mark() {
	case "true":
		return api.Node{Kind: api.NBool, N: 1, At: p.take().At}
	case "false":
		return api.Node{Kind: api.NBool, At: p.take().At}
	case "nil":
		return api.Node{Kind: api.NNil, At: p.take().At}
	case "(":
		return p.inBrackets()
	case "[":
		return p.literalList()
	case "func":
		return p.literalFunc()
	case "len", "append", "panic", "put", "get":
		return p.call(p.plainName(), p.expr)
	case "make":
		return p.makeCall()
	}
	p.refuse()
	return api.Node{}
}

// plainName takes a name, or a word that stands as one.
func (p *parser) plainName() api.Node {
	token := p.take()
	return api.Node{Kind: api.NName, Text: token.Text, At: token.At}
}

// inBrackets reads an expression in brackets, or a method as a function, whose brackets begin with *, as no expression does.
func (p *parser) inBrackets() api.Node {
	at := p.enter("(").At
	if !p.skip("*") {
		n := p.expr()
		p.leave(")")
		return n
	}
	n := api.Node{Kind: api.NMethodExpr, At: at, Kids: []api.Node{p.typeName()}}
	p.leave(")")
	p.want(".")
	n.Text = p.name().Text
	return n
}

func (p *parser) literalList() api.Node {
	n := api.Node{Kind: api.NList, At: p.enter("[").At}
	p.leave("]")
	n.Kids = append(n.Kids, p.typeOf())
	n.Kids = append(n.Kids, p.within("{", "}", p.expr)...)
	return n
}

func (p *parser) literalFunc() api.Node {
	n := api.Node{Kind: api.NFuncLit, At: p.want("func").At}
	p.head(&n, p.param)
	n.Kids = append(n.Kids, p.block())
	return n
}

func (p *parser) makeCall() api.Node {
	n := api.Node{Kind: api.NCall, Kids: []api.Node{p.plainName()}}
	n.At = p.enter("(").At
	n.Kids = append(n.Kids, p.typeOf())
	p.want(",")
	n.Kids = append(n.Kids, p.expr())
	p.leave(")")
	return n
}
