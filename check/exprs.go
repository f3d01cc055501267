package check

import (
	"mortise/api"
	"mortise/kinds"
)

// operand is what an expression comes to: its type, and whether it is a place, where something can be stored.
type operand struct {
	is    api.Type
	place bool
}

// expr is an expression's type.
func (c *checker) expr(n api.Node) api.Type {
	return c.operand(n).is
}

// arguments are those of a call: their types, and the places of their facts.
type arguments struct {
	types []api.Type
	at    []int
}

func (c *checker) args(nodes []api.Node) arguments {
	var a arguments
	for _, n := range nodes {
		a.at = append(a.at, len(c.facts))
		a.types = append(a.types, c.expr(n))
	}
	return a
}

// operand keeps what is known of an expression: its fact stands ahead of those of what is in it.
func (c *checker) operand(n api.Node) operand {
	at := c.fact(n)
	o := c.meaning(n)
	c.facts[at].Type = c.kept(o.is)
	return o
}

// fact makes a fact whose types are not known yet, and tells its place.
func (c *checker) fact(n api.Node) int {
	c.facts = append(c.facts, Fact{At: n.At})
	return len(c.facts) - 1
}

func (c *checker) fits(from, to api.Type) bool {
	return kinds.Fits(c.us, c.vars, from, to)
}

// checkFits wants an expression to fit a type.
func (c *checker) checkFits(n api.Node, to api.Type) {
	at := len(c.facts)
	want(c.fits(c.expr(n), to), n, api.ErrType)
	c.facts[at].Wanted = bare(to)
}

// checkKind wants an expression's type to be of a kind.
func (c *checker) checkKind(n api.Node, kind int) {
	want(c.expr(n).Kind == kind, n, api.ErrType)
}

func (c *checker) meaning(n api.Node) operand {
	if d, is := c.named(n); is {
		return valueOf(n, d)
	}
	switch n.Kind {
	case api.NName:
		t, _ := c.local(n.Text)
		return operand{is: t, place: true}
	case api.NSel:
		return c.selection(n)
	case api.NIndex:
		return c.element(n)
	}
	return operand{is: c.value(n)}
}

// value is the type of an expression that is never a place.
func (c *checker) value(n api.Node) api.Type {
	switch n.Kind {
	case api.NInt:
		return ofKind(api.TInt)
	case api.NText:
		return ofKind(api.TText)
	case api.NBool:
		return ofKind(api.TBool)
	case api.NNil:
		return ofKind(api.TNil)
	case api.NBinary:
		return c.binary(n)
	case api.NUnary:
		return c.unary(n)
	case api.NCall:
		return c.call(n)
	case api.NSlice:
		return c.piece(n)
	case api.NAssert:
		return c.assertion(n)
	case api.NNew:
		return c.newStruct(n)
	case api.NList:
		return c.list(n)
	case api.NFuncLit:
		return c.literal(n)
	}
	return c.methodExpr(n)
}

// named is the declaration that an expression names, of this package or of the one ahead of a point, and whether it names one: local variables hide them.
func (c *checker) named(n api.Node) (api.Decl, bool) {
	switch {
	case n.Kind == api.NName && !c.isLocal(n.Text):
		return c.declaration(n, c.unit().Pkg, n.Text), true
	case n.Kind == api.NSel && c.isPackage(n.Kids[0]):
		return c.declaration(n, n.Kids[0].Text, n.Text), true
	}
	return api.Decl{}, false
}

// isPackage tells whether what stands ahead of a point is the name of a package.
func (c *checker) isPackage(n api.Node) bool {
	return n.Kind == api.NName && c.isImport(n.Text) && !c.isLocal(n.Text)
}

// valueOf is what a declaration is in an expression.
func valueOf(n api.Node, d api.Decl) operand {
	switch {
	case d.Kind == api.DVar:
		return operand{is: d.Type, place: true}
	case d.Kind == api.DConst:
		return operand{is: ofKind(api.TInt)}
	}
	want(d.Kind == api.DFunc && !isGeneric(d), n, api.ErrType)
	return operand{is: d.Type}
}

// selection is a field or a method of a value.
func (c *checker) selection(n api.Node) operand {
	t := c.expr(n.Kids[0])
	want(t.Kind == api.TPtr || t.Kind == api.TIface || t.Kind == api.TVar, n, api.ErrType)
	if f, ok := c.field(n, t); ok {
		return operand{is: f.Type, place: true}
	}
	return operand{is: c.method(n, t)}
}

// field is the field that a node names of what a pointer leads to, and whether there is one.
func (c *checker) field(n api.Node, t api.Type) (api.Field, bool) {
	d, _ := kinds.Find(c.us, t.Pkg, t.Name)
	if t.Kind != api.TPtr || d.Kind != api.DStruct || !c.mayName(t.Pkg, n.Text) {
		return api.Field{}, false
	}
	return find(d.Fields, n.Text)
}

// method is the type of the method of a type that a node names.
func (c *checker) method(n api.Node, t api.Type) api.Type {
	want(t.Kind != api.TPtr || c.mayName(t.Pkg, n.Text), n, api.ErrName)
	m, ok := find(kinds.Methods(c.us, c.vars, t), n.Text)
	want(ok, n, api.ErrName)
	return m.Type
}

// methodExpr is a method as a function whose first parameter is the receiver.
func (c *checker) methodExpr(n api.Node) api.Type {
	receiver := c.pointerTo(n.Kids[0])
	t := c.method(n, receiver)
	t.Args = append([]api.Type{receiver}, t.Args...)
	return t
}

func (c *checker) element(n api.Node) operand {
	t := c.expr(n.Kids[0])
	c.checkKind(n.Kids[1], api.TInt)
	if t.Kind == api.TText {
		return operand{is: ofKind(api.TInt)}
	}
	element, ok := elementOf(t)
	want(ok, n, api.ErrType)
	return operand{is: element, place: true}
}

func (c *checker) piece(n api.Node) api.Type {
	t := c.expr(n.Kids[0])
	want(t.Kind == api.TSlice || t.Kind == api.TText, n, api.ErrType)
	for _, bound := range n.Kids[1:] {
		c.checkKind(bound, api.TInt)
	}
	return t
}

func (c *checker) assertion(n api.Node) api.Type {
	from, to := c.expr(n.Kids[0]), c.typeOf(n.Kids[1])
	want(from.Kind == api.TIface, n, api.ErrType)
	want(to.Kind == api.TIface || to.Kind == api.TPtr && c.fits(to, from), n, api.ErrType)
	return to
}

func (c *checker) newStruct(n api.Node) api.Type {
	t := c.pointerTo(n.Kids[0])
	keys := n.Kids[1:]
	checkUnlike(keys)
	for _, key := range keys {
		f, ok := c.field(key, t)
		want(ok, key, api.ErrName)
		c.checkFits(key.Kids[0], f.Type)
	}
	return t
}

func (c *checker) list(n api.Node) api.Type {
	element := c.typeOf(n.Kids[0])
	for _, kid := range n.Kids[1:] {
		c.checkFits(kid, element)
	}
	return api.Type{Kind: api.TSlice, Args: []api.Type{element}}
}

func (c *checker) literal(n api.Node) api.Type {
	h := headOf(n)
	t := c.funcOf(n, h.params, h.result)
	c.checkRoutine(h)
	return t
}

func (c *checker) unary(n api.Node) api.Type {
	kind := api.TInt
	if n.Op == api.Bang {
		kind = api.TBool
	}
	c.checkKind(n.Kids[0], kind)
	return ofKind(kind)
}

func (c *checker) binary(n api.Node) api.Type {
	a, b := c.expr(n.Kids[0]), c.expr(n.Kids[1])
	switch n.Op {
	case api.Eq, api.Ne:
		want(c.mayCompare(a, b), n, api.ErrType)
		return ofKind(api.TBool)
	case api.AndAnd, api.OrOr:
		want(a.Kind == api.TBool && b.Kind == api.TBool, n, api.ErrType)
		return ofKind(api.TBool)
	case api.Add:
		if a.Kind == api.TText && b.Kind == api.TText {
			return ofKind(api.TText)
		}
	}
	want(a.Kind == api.TInt && b.Kind == api.TInt, n, api.ErrType)
	switch n.Op {
	case api.Lt, api.Le, api.Gt, api.Ge:
		return ofKind(api.TBool)
	}
	return ofKind(api.TInt)
}

// mayCompare tells whether == may stand between values of two types.
func (c *checker) mayCompare(a, b api.Type) bool {
	if !c.fits(a, b) && !c.fits(b, a) {
		return false
	}
	if kinds.Comparable(c.vars, a) && kinds.Comparable(c.vars, b) {
		return true
	}
	// What nil fits, but for itself, may be held against it.
	return (a.Kind == api.TNil) != (b.Kind == api.TNil)
}
