package eval

import (
	"mortise/api"
	"mortise/lex"
)

// call makes a call: what is called is evaluated ahead of its arguments.
func (m *maker) call(n api.Node) expr {
	called := n.Kids[0]
	if called.Kind == api.NName && lex.Word(called.Text) {
		return m.wordCall(called.Text, n.Kids[1:])
	}
	r, f, args := m.run, m.expr(called), m.exprs(n.Kids[1:])
	return func(c *call) value {
		v := f(c)
		return r.do(v, all(args, c))
	}
}

// wordCall makes a call of one of the language's words.
func (m *maker) wordCall(word string, args []api.Node) expr {
	r := m.run
	switch word {
	case "append":
		return m.appendCall(args[0], args[1])
	case "make":
		return m.makeCall(args[0], args[1])
	case "get":
		return func(*call) value { return r.read() }
	}
	x := m.expr(args[0])
	switch word {
	case "len":
		return func(c *call) value { return lengthOf(x(c)) }
	case "put":
		return func(c *call) value {
			r.write(x(c).(int64))
			return nil
		}
	}
	return func(c *call) value {
		panics(api.UserPanic + int(x(c).(int64)&255))
		return nil
	}
}

func (m *maker) appendCall(list, element api.Node) expr {
	r, s, x := m.run, m.expr(list), m.expr(element)
	kind := m.kindOf(m.facts[element.At].Wanted)
	return func(c *call) value {
		cells := s(c)
		v := x(c)
		return r.appended(cellsOf(cells), v, zero(kind(c)))
	}
}

func (m *maker) makeCall(of, length api.Node) expr {
	r, n := m.run, m.expr(length)
	kind := m.kindOf(m.typeOf(of.Kids[0]))
	return func(c *call) value {
		return r.made(n(c).(int64), zero(kind(c)))
	}
}
