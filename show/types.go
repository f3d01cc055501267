package show

import (
	"mortise/api"
	"mortise/lex"
)

// typeOf writes a type.
func (w *writer) typeOf(n api.Node) {
	switch n.Kind {
	case api.NTypeName:
		if n.Pkg != "" {
			w.put(n.Pkg, ".")
		}
		w.put(n.Text)
	case api.NPtr:
		w.put("*")
		w.typeName(n.Kids[0])
	case api.NSliceOf:
		w.put("[", "]")
		w.typeOf(n.Kids[0])
	case api.NFuncOf:
		w.put("func")
		w.head(n, n.Kids, w.typeOf)
	default:
		w.refuse()
	}
}

// typeName writes a TYPENAME, which none of the words is.
func (w *writer) typeName(n api.Node) {
	if !w.is(n, api.NTypeName) {
		return
	}
	if lex.Word(n.Text) {
		w.refuse()
	}
	w.typeOf(n)
}

// head writes what a function takes, and its result's type if there is one: the last of the kids then.
func (w *writer) head(n api.Node, kids []api.Node, part func(api.Node)) {
	takes := len(kids) - int(n.N)
	w.put("(")
	w.list(kids[:takes], part)
	w.put(")")
	for _, result := range kids[takes:] {
		w.typeOf(result)
	}
}
