package parse

import "mortise/api"

func (p *parser) expr() api.Node {
	return p.binary(1)
}

// binary reads an expression as far as its signs bind at least so strongly.
func (p *parser) binary(least int) api.Node {
	left := p.unary()
	for {
		op, strength := p.operation()
		if strength < least {
			return left
		}
		at := p.take().At
		// What stands to the right ends at the next sign of the same strength, so that those bind from the left.
		right := p.binary(strength + 1)
		left = api.Node{Kind: api.NBinary, Op: op, At: at, Kids: []api.Node{left, right}}
	}
}

// operation is the operation whose sign stands here, and how strongly it binds; two noughts, if none does.
func (p *parser) operation() (int, int) {
	mark := p.mark()
	for op := range api.OrOr + 1 {
		if sign, strength := Sign(op); sign == mark {
			return op, strength
		}
	}
	return 0, 0
}

func (p *parser) unary() api.Node {
	switch p.mark() {
	case "-":
		return p.ofOne(api.Neg)
	case "!":
		return p.ofOne(api.Bang)
	case "&":
		return p.newStruct()
	}
	n := p.first()
	for {
		switch p.mark() {
		case "(":
			n = p.call(n, p.expr)
		case "[":
			n = p.indexed(n)
		case ".":
			n = p.selected(n)
		default:
			return n
		}
	}
}

func (p *parser) ofOne(op int) api.Node {
	at := p.take().At
	return api.Node{Kind: api.NUnary, Op: op, At: at, Kids: []api.Node{p.unary()}}
}

func (p *parser) newStruct() api.Node {
	n := api.Node{Kind: api.NNew, At: p.want("&").At, Kids: []api.Node{p.typeName()}}
	n.Kids = append(n.Kids, p.within("{", "}", p.key)...)
	return n
}

func (p *parser) key() api.Node {
	name := p.name()
	p.want(":")
	return api.Node{Kind: api.NKey, Text: name.Text, At: name.At, Kids: []api.Node{p.expr()}}
}

// call reads what is handed to what stands ahead.
func (p *parser) call(ahead api.Node, part func() api.Node) api.Node {
	n := api.Node{Kind: api.NCall, At: p.token().At, Kids: []api.Node{ahead}}
	n.Kids = append(n.Kids, p.within("(", ")", part)...)
	return n
}

// indexed reads an index of what stands ahead, or the bounds of a piece of it.
func (p *parser) indexed(ahead api.Node) api.Node {
	n := api.Node{Kind: api.NSlice, At: p.enter("[").At, Kids: []api.Node{ahead}}
	if p.mark() != ":" {
		n.Kids = append(n.Kids, p.expr())
		if p.mark() == "]" {
			n.Kind = api.NIndex
			p.leave("]")
			return n
		}
		n.N = 1
	}
	p.want(":")
	if p.mark() != "]" {
		n.Kids = append(n.Kids, p.expr())
		n.N += 2
	}
	p.leave("]")
	return n
}

// selected reads a name or a type behind a point.
func (p *parser) selected(ahead api.Node) api.Node {
	n := api.Node{Kind: api.NSel, At: p.want(".").At, Kids: []api.Node{ahead}}
	if p.mark() == "(" {
		n.Kind = api.NAssert
		p.enter("(")
		n.Kids = append(n.Kids, p.typeOf())
		p.leave(")")
		return n
	}
	n.Text = p.name().Text
	return n
}
