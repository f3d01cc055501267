package check

import (
	"slices"

	"mortise/api"
)

// scope is what is known of local variables: those of all scopes about a place, the innermost one's last.
type scope struct {
	vars  []api.Field
	inner int // where those of the innermost scope begin
}

// frame is what a function is for the statements in it.
type frame struct {
	result []api.Type
	loops  int // that stand about a place in it
}

// within goes through something in a scope of its own.
func (c *checker) within(part func()) {
	outer := c.scope
	c.scope.inner = len(outer.vars)
	part()
	c.scope = outer
}

// declare makes a variable known from here on.
func (c *checker) declare(n api.Node, t api.Type) {
	_, twice := find(c.scope.vars[c.scope.inner:], n.Text)
	want(!twice, n, api.ErrTwice)
	c.scope.vars = append(c.scope.vars, api.Field{Name: n.Text, Type: t})
}

// local is the type of the local variable that a name means, and whether it means one.
func (c *checker) local(name string) (api.Type, bool) {
	for _, v := range slices.Backward(c.scope.vars) {
		if v.Name == name {
			return v.Type, true
		}
	}
	return api.Type{}, false
}

func (c *checker) isLocal(name string) bool {
	_, is := c.local(name)
	return is
}

// checkRoutine wants a function's parameters and block to be right.
func (c *checker) checkRoutine(h head) {
	outer := c.frame
	c.frame = frame{result: c.typesOf(h.result)}
	c.within(func() {
		for _, param := range h.params {
			c.declare(param, c.typeOf(param))
		}
		c.checkStats(h.block.Kids)
	})
	want(len(h.result) == 0 || ends(h.block), h.block, api.ErrType)
	c.frame = outer
}

func (c *checker) checkBlock(block api.Node) {
	c.within(func() { c.checkStats(block.Kids) })
}

func (c *checker) checkStats(stats []api.Node) {
	for _, n := range stats {
		c.checkStat(n)
	}
}

func (c *checker) checkStat(n api.Node) {
	switch n.Kind {
	case api.NVar:
		t := c.typeOf(n.Kids[0])
		c.checkFirst(n, t)
		c.declare(n, t)
	case api.NDefine:
		t := c.expr(n.Kids[0])
		want(t.Kind != api.TNone && t.Kind != api.TNil, n, api.ErrType)
		c.declare(n, t)
	case api.NAssign:
		left := c.operand(n.Kids[0])
		want(left.place, n.Kids[0], api.ErrType)
		c.checkFits(n.Kids[1], left.is)
	case api.NDo:
		want(standsAlone(n.Kids[0]), n, api.ErrType)
		c.expr(n.Kids[0])
	case api.NIf:
		c.checkIf(n)
	case api.NFor:
		c.checkFor(n)
	case api.NBreak, api.NContinue:
		want(c.frame.loops > 0, n, api.ErrType)
	case api.NReturn:
		c.checkReturn(n)
	case api.NBlock:
		c.checkBlock(n)
	}
}

func (c *checker) checkIf(n api.Node) {
	c.checkKind(n.Kids[0], api.TBool)
	c.checkBlock(n.Kids[1])
	c.checkStats(n.Kids[2:])
}

func (c *checker) checkFor(n api.Node) {
	block := len(n.Kids) - 1
	for _, kid := range n.Kids[:block] {
		c.checkKind(kid, api.TBool)
	}
	c.frame.loops++
	c.checkBlock(n.Kids[block])
	c.frame.loops--
}

func (c *checker) checkReturn(n api.Node) {
	want(len(n.Kids) == len(c.frame.result), n, api.ErrType)
	for i, kid := range n.Kids {
		c.checkFits(kid, c.frame.result[i])
	}
}

// standsAlone tells whether an expression may be a statement.
func standsAlone(n api.Node) bool {
	return n.Kind == api.NCall && !calls(n, "len") && !calls(n, "append") && !calls(n, "make")
}

// calls tells whether a call is one of a word.
func calls(n api.Node, word string) bool {
	called := n.Kids[0]
	return called.Kind == api.NName && called.Text == word
}

// ends tells whether a function never runs out behind a statement.
func ends(n api.Node) bool {
	switch n.Kind {
	case api.NReturn:
		return true
	case api.NDo:
		return calls(n.Kids[0], "panic")
	case api.NBlock:
		last := len(n.Kids) - 1
		return last >= 0 && ends(n.Kids[last])
	case api.NIf:
		return len(n.Kids) == 3 && ends(n.Kids[1]) && ends(n.Kids[2])
	case api.NFor:
		return n.N == 0 && !leaves(n.Kids[0])
	}
	return false
}

// leaves tells whether a break in a statement leaves the for about it: one in a for within leaves that one.
func leaves(n api.Node) bool {
	switch n.Kind {
	case api.NBreak:
		return true
	case api.NBlock, api.NIf:
		return slices.ContainsFunc(n.Kids, leaves)
	}
	return false
}
