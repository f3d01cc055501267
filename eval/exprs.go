package eval

import (
	"slices"

	"mortise/api"
)

// expr makes an expression, with the step that it takes.
func (m *maker) expr(n api.Node) expr {
	r, does := m.run, m.fitting(n, m.meaning(n))
	return func(c *call) value {
		r.take(1)
		return does(c)
	}
}

func (m *maker) exprs(nodes []api.Node) []expr {
	var list []expr
	for _, n := range nodes {
		list = append(list, m.expr(n))
	}
	return list
}

// all is what several expressions come to, from left to right.
func all(list []expr, c *call) []value {
	values := make([]value, len(list))
	for i, e := range list {
		values[i] = e(c)
	}
	return values
}

// fitting makes of an expression what is wanted where it stands: a pointer that becomes an interface may not be nil.
func (m *maker) fitting(n api.Node, does expr) expr {
	fact := m.facts[n.At]
	if fact.Wanted.Kind != api.TIface || fact.Type.Kind != api.TPtr && fact.Type.Kind != api.TVar {
		return does
	}
	kind := m.kindOf(fact.Type)
	return func(c *call) value {
		v := does(c)
		if kind(c) == api.TPtr {
			return notNil(v)
		}
		return v
	}
}

func (m *maker) meaning(n api.Node) expr {
	switch n.Kind {
	case api.NInt:
		return constant(n.N)
	case api.NText:
		return constant(n.Text)
	case api.NBool:
		return constant(n.N == 1)
	case api.NNil:
		return constant(nil)
	case api.NBinary:
		return m.binary(n)
	case api.NUnary:
		return m.unary(n)
	case api.NCall:
		return m.call(n)
	case api.NIndex:
		return m.item(n)
	case api.NSlice:
		return m.part(n)
	case api.NAssert:
		return m.assertion(n)
	case api.NNew:
		return m.newStruct(n)
	case api.NList:
		return m.list(n)
	case api.NFuncLit:
		return m.literal(n)
	case api.NMethodExpr:
		return m.methodExpr(n)
	}
	return m.name(n)
}

func constant(v value) expr {
	return func(*call) value { return v }
}

// place is the variable, of a function or a package, that an expression names, if it names one.
func (m *maker) place(n api.Node) (place, bool) {
	if is, names := m.named(n); names {
		v, isVar := m.vars[is]
		return func(*call) *value { return v }, isVar
	}
	if n.Kind == api.NName {
		return m.local(n.Text)
	}
	return nil, false
}

// name makes a name, or what stands behind a point.
func (m *maker) name(n api.Node) expr {
	if at, is := m.place(n); is {
		return func(c *call) value { return *at(c) }
	}
	is, names := m.named(n)
	if !names {
		return m.selection(n)
	}
	if v, isConst := m.consts[is]; isConst {
		return constant(v)
	}
	return m.function(n, m.routines[is])
}

// function makes a function that is named: one with type variables is called there, and gets the kinds of the types that are put in.
func (m *maker) function(n api.Node, made *routine) expr {
	var kinds []func(*call) int
	for _, t := range m.facts[n.At].Filled {
		kinds = append(kinds, m.kindOf(t))
	}
	if len(kinds) == 0 {
		return constant(&function{routine: made})
	}
	return func(c *call) value {
		f := &function{routine: made, kinds: make([]int, len(kinds))}
		for i, kind := range kinds {
			f.kinds[i] = kind(c)
		}
		return f
	}
}

// selection makes a field or a method of a value.
func (m *maker) selection(n api.Node) expr {
	x := m.expr(n.Kids[0])
	if m.facts[n.Kids[0].At].Type.Kind != api.TPtr {
		return m.found(x, n.Text)
	}
	if at := m.fieldAt(n); at >= 0 {
		return func(c *call) value { return *fieldOf(x(c), at) }
	}
	of := m.facts[n.Kids[0].At].Type
	return m.bound(x, m.routines[symbol{pkg: of.Pkg, of: of.Name, name: n.Text}])
}

// fieldAt is the place of the field that is named of what a pointer leads to, or -1.
func (m *maker) fieldAt(n api.Node) int {
	of := m.facts[n.Kids[0].At].Type
	return slices.Index(m.structs[symbol{pkg: of.Pkg, name: of.Name}].names, n.Text)
}

// bound makes a method of a pointer, whatever that is.
func (m *maker) bound(x expr, made *routine) expr {
	r := m.run
	return func(c *call) value {
		v := x(c)
		r.cost += 4
		return &function{routine: made, receiver: []value{v}}
	}
}

// found makes a method of an interface or a type variable: it is that of the struct to which the value leads.
func (m *maker) found(x expr, name string) expr {
	r := m.run
	return func(c *call) value {
		v := x(c)
		to, is := v.(*record)
		if !is {
			panics(api.PanicNil)
		}
		r.cost += 4
		return &function{routine: to.of.methods[name], receiver: []value{v}}
	}
}

func (m *maker) methodExpr(n api.Node) expr {
	of := symbol{pkg: m.unit.Pkg, of: n.Kids[0].Text, name: n.Text}
	if n.Kids[0].Pkg != "" {
		of.pkg = n.Kids[0].Pkg
	}
	return constant(&function{routine: m.routines[of]})
}

func (m *maker) unary(n api.Node) expr {
	x := m.expr(n.Kids[0])
	if n.Op == api.Bang {
		return func(c *call) value { return !x(c).(bool) }
	}
	return func(c *call) value { return -x(c).(int64) }
}

func (m *maker) binary(n api.Node) expr {
	r, op := m.run, n.Op
	x, y := m.expr(n.Kids[0]), m.expr(n.Kids[1])
	switch {
	case op == api.AndAnd:
		return func(c *call) value { return x(c).(bool) && y(c).(bool) }
	case op == api.OrOr:
		return func(c *call) value { return x(c).(bool) || y(c).(bool) }
	case op == api.Eq:
		return ofTwo(x, y, func(a, b value) value { return r.same(a, b) })
	case op == api.Ne:
		return ofTwo(x, y, func(a, b value) value { return !r.same(a, b) })
	case m.facts[n.At].Type.Kind == api.TText:
		return ofTwo(x, y, func(a, b value) value { return r.joined(a.(string), b.(string)) })
	}
	return ofTwo(x, y, func(a, b value) value { return reckoned(op, a.(int64), b.(int64)) })
}

// ofTwo makes an operation whose operands are both evaluated ahead of it, the left one first.
func ofTwo(x, y expr, do func(a, b value) value) expr {
	return func(c *call) value {
		a := x(c)
		b := y(c)
		return do(a, b)
	}
}

func (m *maker) item(n api.Node) expr {
	return ofTwo(m.expr(n.Kids[0]), m.expr(n.Kids[1]), func(x, i value) value { return itemOf(x, i.(int64)) })
}

// part makes x[i:j]: of the bounds those stand in the tree that are there.
func (m *maker) part(n api.Node) expr {
	r := m.run
	list := m.exprs(n.Kids)
	hasFirst, hasSecond := n.N&1 != 0, n.N&2 != 0
	return func(c *call) value {
		values := all(list, c)
		i, j := int64(0), lengthOf(values[0])
		if hasFirst {
			i = values[1].(int64)
		}
		if hasSecond {
			j = values[len(values)-1].(int64)
		}
		return r.part(values[0], i, j)
	}
}

func (m *maker) assertion(n api.Node) expr {
	x, to, p := m.expr(n.Kids[0]), m.facts[n.At].Type, m.program
	return func(c *call) value {
		v := x(c)
		if !p.leads(v, to) {
			panics(api.PanicType)
		}
		return v
	}
}

func (m *maker) newStruct(n api.Node) expr {
	r, of := m.run, m.facts[n.At].Type
	made := m.structs[symbol{pkg: of.Pkg, name: of.Name}]
	var at []int
	var list []expr
	for _, key := range n.Kids[1:] {
		at = append(at, slices.Index(made.names, key.Text))
		list = append(list, m.expr(key.Kids[0]))
	}
	return func(c *call) value {
		fields := slices.Clone(made.zeros)
		for i, e := range list {
			fields[at[i]] = e(c)
		}
		r.cost += len(fields) + 2
		return &record{of: made, fields: fields}
	}
}

func (m *maker) list(n api.Node) expr {
	r, list := m.run, m.exprs(n.Kids[1:])
	return func(c *call) value {
		cells := all(list, c)
		r.cost += len(cells) + 6
		return &slice{cells: cells}
	}
}

// literal makes a function's literal: it has the variables that are known here, and the types of the function about it.
func (m *maker) literal(n api.Node) expr {
	r, cost := m.run, 3+m.known()
	made := m.newRoutine(m.literalName(n))
	m.fill(made, n)
	return func(c *call) value {
		r.cost += cost
		return &function{routine: made, scope: c.scope, kinds: c.kinds}
	}
}
