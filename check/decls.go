package check

import "mortise/api"

// head is what stands ahead of a function's block, and the block: of a method the receiver is its first parameter.
type head struct {
	vars   []api.Node
	params []api.Node
	result []api.Node
	block  api.Node
}

// headOf is the head of a function, a method or a function's literal.
func headOf(n api.Node) head {
	last := len(n.Kids) - 1
	result := last - int(n.N)
	vars := 0
	for n.Kids[vars].Kind == api.NTypeVar {
		vars++
	}
	return head{
		vars:   n.Kids[:vars],
		params: n.Kids[vars:result],
		result: n.Kids[result:last],
		block:  n.Kids[last],
	}
}

// checkHeads wants all types that the unit is made of to be right, and puts them into it; receivers are seen to with the blocks.
func (c *checker) checkHeads() {
	for i, n := range c.decls {
		d := &c.unit().Decls[i]
		switch n.Kind {
		case api.NVar:
			d.Type = c.typeOf(n.Kids[0])
		case api.NStruct, api.NIface:
			d.Fields = c.fieldsOf(n)
		case api.NFunc:
			h := headOf(n)
			c.vars = c.typeVars(n, h.vars)
			d.Type, d.Fields = c.funcOf(n, h.params, h.result), c.vars
			c.vars = nil
		case api.NMethod:
			h := headOf(n)
			d.Type = c.funcOf(n, h.params[1:], h.result)
		}
	}
}

// fieldsOf are a struct's fields, or an interface's methods.
func (c *checker) fieldsOf(n api.Node) []api.Field {
	want(len(n.Kids) <= api.MaxList, n, api.ErrType)
	var fields []api.Field
	for _, kid := range n.Kids {
		fields = append(fields, api.Field{Name: kid.Text, Type: c.typeOf(kid)})
	}
	return fields
}

// typeVars are a function's type variables, with what they must be.
func (c *checker) typeVars(n api.Node, vars []api.Node) []api.Field {
	want(len(vars) <= api.MaxList, n, api.ErrType)
	checkUnlike(vars)
	var fields []api.Field
	for _, v := range vars {
		fields = append(fields, api.Field{Name: v.Text})
	}
	// All of them are known, before what one of them must be is looked up: those behind it hide names too.
	c.vars = fields
	for i, v := range vars {
		fields[i].Type = c.mustBe(v)
	}
	return fields
}

// mustBe is what a type variable must be, as layer 7 has it.
func (c *checker) mustBe(v api.Node) api.Type {
	switch v.N {
	case 0:
		return ofKind(api.TNone)
	case 1:
		return ofKind(api.TBool)
	}
	return c.ifaceOf(v.Kids[0])
}

// checkMembers wants what a struct or an interface has to have unlike names.
func (c *checker) checkMembers() {
	methods := map[string][]api.Node{}
	for _, n := range c.decls {
		if n.Kind == api.NMethod {
			of := receiverStruct(n)
			methods[of] = append(methods[of], n)
		}
	}
	for _, n := range c.decls {
		switch n.Kind {
		case api.NStruct:
			checkUnlike(append(methods[n.Text], n.Kids...))
		case api.NIface:
			checkUnlike(n.Kids)
		}
	}
}

// checkBodies wants all expressions and statements to be right.
func (c *checker) checkBodies() {
	for i, n := range c.decls {
		d := c.unit().Decls[i]
		switch n.Kind {
		case api.NVar:
			c.checkFirst(n, d.Type)
		case api.NFunc:
			c.vars = d.Fields
			c.checkRoutine(headOf(n))
			c.vars = nil
		case api.NMethod:
			c.checkRoutine(headOf(n))
		}
	}
}

// checkFirst wants what a variable holds first, if that is told, to fit its type.
func (c *checker) checkFirst(n api.Node, t api.Type) {
	for _, first := range n.Kids[1:] {
		c.checkFits(first, t)
	}
}
