package show

import (
	"strconv"

	"mortise/api"
)

func (w *writer) file(n api.Node) {
	if !w.is(n, api.NFile) {
		return
	}
	w.put("package", n.Text, ";")
	decls := n.Kids
	for len(decls) > 0 && decls[0].Kind == api.NImport {
		w.put("import", decls[0].Text, ";")
		decls = decls[1:]
	}
	for _, decl := range decls {
		w.decl(decl)
	}
}

func (w *writer) decl(n api.Node) {
	switch n.Kind {
	case api.NConst:
		w.constant(n)
	case api.NVar:
		w.variable(n)
	case api.NStruct:
		w.declaredType(n, "struct", w.field)
	case api.NIface:
		w.declaredType(n, "interface", w.sig)
	case api.NFunc:
		w.declaredFunc(n)
	case api.NMethod:
		w.method(n)
	default:
		w.refuse()
	}
}

func (w *writer) constant(n api.Node) {
	w.put("const", n.Text, "=")
	digits := n.N
	if n.N < 0 {
		w.put("-")
		digits = -n.N
	}
	w.put(strconv.FormatInt(digits, 10), ";")
}

// variable writes a declaration, which is a statement too.
func (w *writer) variable(n api.Node) {
	w.put("var")
	w.named(n)
	for _, first := range n.Kids[1:] {
		w.put("=")
		w.expr(first)
	}
	w.put(";")
}

// named writes a node's name and its type.
func (w *writer) named(n api.Node) {
	w.put(n.Text)
	w.typeOf(n.Kids[0])
}

func (w *writer) declaredType(n api.Node, word string, part func(api.Node)) {
	w.put("type", n.Text, word, "{")
	for _, kid := range n.Kids {
		part(kid)
		w.put(";")
	}
	w.put("}")
}

func (w *writer) field(n api.Node) {
	if w.is(n, api.NField) {
		w.named(n)
	}
}

func (w *writer) sig(n api.Node) {
	if w.is(n, api.NSig) {
		w.put(n.Text)
		w.head(n, n.Kids, w.typeOf)
	}
}

func (w *writer) param(n api.Node) {
	if w.is(n, api.NParam) {
		w.named(n)
	}
}

func (w *writer) declaredFunc(n api.Node) {
	kids, body := aheadOfLast(n.Kids)
	w.put("func", n.Text)
	vars := 0
	// A result's type is never one of them.
	for vars < len(kids)-int(n.N) && kids[vars].Kind == api.NTypeVar {
		vars++
	}
	if vars > 0 {
		w.put("[")
		w.list(kids[:vars], w.typeVar)
		w.put("]")
	}
	w.head(n, kids[vars:], w.param)
	w.block(body)
}

func (w *writer) method(n api.Node) {
	kids, body := aheadOfLast(n.Kids)
	w.put("func", "(")
	w.receiver(kids[0])
	w.put(")", n.Text)
	w.head(n, kids[1:], w.param)
	w.block(body)
}

// receiver writes what a method belongs to, whose type's name has no package.
func (w *writer) receiver(n api.Node) {
	if !w.is(n, api.NParam) || !w.is(n.Kids[0], api.NPtr) {
		return
	}
	if n.Kids[0].Kids[0].Pkg != "" {
		w.refuse()
	}
	w.named(n)
}

func (w *writer) typeVar(n api.Node) {
	w.put(n.Text)
	switch n.N {
	case 0:
		w.put("any")
	case 1:
		w.put("comparable")
	default:
		w.typeName(n.Kids[0])
	}
}

// aheadOfLast is what stands ahead of the last of several nodes, and that one.
func aheadOfLast(kids []api.Node) ([]api.Node, api.Node) {
	last := len(kids) - 1
	return kids[:last], kids[last]
}
