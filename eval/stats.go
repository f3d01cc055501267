package eval

import (
	"slices"

	"mortise/api"
)

// after is how it goes on behind a statement.
type after int

const (
	onward  after = iota
	leaves        // the for about it
	again         // with the next round of the for about it
	returns       // from the function
)

// stats makes statements that stand behind one another.
func (m *maker) stats(nodes []api.Node) stat {
	var list []stat
	for _, n := range nodes {
		list = append(list, m.stat(n))
	}
	return func(c *call) after {
		for _, s := range list {
			if next := s(c); next != onward {
				return next
			}
		}
		return onward
	}
}

// block makes a block: one that declares nothing needs no scope.
func (m *maker) block(n api.Node) stat {
	if !slices.ContainsFunc(n.Kids, declares) {
		return m.stats(n.Kids)
	}
	body, size := m.within(nil, n.Kids)
	return func(c *call) after {
		about := c.scope
		c.scope = newScope(size, about)
		next := body(c)
		c.scope = about
		return next
	}
}

func declares(n api.Node) bool {
	return n.Kind == api.NVar || n.Kind == api.NDefine
}

// stat makes a statement, with the step that it takes.
func (m *maker) stat(n api.Node) stat {
	r, does := m.run, m.doing(n)
	return func(c *call) after {
		r.take(1)
		return does(c)
	}
}

func (m *maker) doing(n api.Node) stat {
	switch n.Kind {
	case api.NVar:
		return m.varStat(n)
	case api.NDefine:
		return m.declaration(n, m.expr(n.Kids[0]))
	case api.NAssign:
		return m.assign(n.Kids[0], n.Kids[1])
	case api.NDo:
		return m.alone(n.Kids[0])
	case api.NIf:
		return m.ifStat(n)
	case api.NFor:
		return m.forStat(n)
	case api.NBreak:
		return func(*call) after { return leaves }
	case api.NContinue:
		return func(*call) after { return again }
	case api.NReturn:
		return m.returnStat(n)
	}
	return m.block(n)
}

func (m *maker) varStat(n api.Node) stat {
	if len(n.Kids) > 1 {
		return m.declaration(n, m.expr(n.Kids[1]))
	}
	kind := m.kindOf(m.typeOf(n.Kids[0]))
	return m.declaration(n, func(c *call) value { return zero(kind(c)) })
}

// declaration makes a variable anew, behind what it holds first.
func (m *maker) declaration(n api.Node, first expr) stat {
	r, at := m.run, m.declare(n.Text)
	return func(c *call) after {
		v := first(c)
		r.cost += 2
		c.scope.vars[at] = &v
		return onward
	}
}

// assign makes an = : what stands in the left side comes ahead of the right side, its own checks behind it.
func (m *maker) assign(left, right api.Node) stat {
	if at, is := m.place(left); is {
		v := m.expr(right)
		return func(c *call) after {
			*at(c) = v(c)
			return onward
		}
	}
	if left.Kind == api.NIndex {
		return m.assignElement(left, right)
	}
	return m.assignField(left, right)
}

func (m *maker) assignElement(left, right api.Node) stat {
	s, i, v := m.expr(left.Kids[0]), m.expr(left.Kids[1]), m.expr(right)
	return func(c *call) after {
		cells := s(c)
		at := i(c).(int64)
		stored := v(c)
		*elementOf(cells, at) = stored
		return onward
	}
}

func (m *maker) assignField(left, right api.Node) stat {
	x, v := m.expr(left.Kids[0]), m.expr(right)
	at := m.fieldAt(left)
	return func(c *call) after {
		pointer := x(c)
		stored := v(c)
		*fieldOf(pointer, at) = stored
		return onward
	}
}

func (m *maker) alone(n api.Node) stat {
	v := m.expr(n)
	return func(c *call) after {
		v(c)
		return onward
	}
}

func (m *maker) ifStat(n api.Node) stat {
	asked, then := m.expr(n.Kids[0]), m.block(n.Kids[1])
	otherwise := m.elseStat(n.Kids[2:])
	return func(c *call) after {
		if asked(c).(bool) {
			return then(c)
		}
		return otherwise(c)
	}
}

// elseStat makes what stands behind else: a block there takes no step.
func (m *maker) elseStat(nodes []api.Node) stat {
	if len(nodes) > 0 && nodes[0].Kind == api.NBlock {
		return m.block(nodes[0])
	}
	return m.stats(nodes)
}

func (m *maker) forStat(n api.Node) stat {
	asked := func(*call) value { return true }
	if n.N == 1 {
		asked = m.expr(n.Kids[0])
	}
	r, round := m.run, m.block(n.Kids[len(n.Kids)-1])
	return func(c *call) after {
		for {
			r.take(1)
			if !asked(c).(bool) {
				return onward
			}
			switch round(c) {
			case leaves:
				return onward
			case returns:
				return returns
			}
		}
	}
}

func (m *maker) returnStat(n api.Node) stat {
	if len(n.Kids) == 0 {
		return func(*call) after { return returns }
	}
	v := m.expr(n.Kids[0])
	return func(c *call) after {
		c.result = v(c)
		return returns
	}
}
