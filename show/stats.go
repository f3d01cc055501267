package show

import "mortise/api"

func (w *writer) block(n api.Node) {
	if !w.is(n, api.NBlock) {
		return
	}
	w.put("{")
	for _, stat := range n.Kids {
		w.stat(stat)
	}
	w.put("}")
}

func (w *writer) stat(n api.Node) {
	switch n.Kind {
	case api.NVar:
		w.variable(n)
	case api.NDefine:
		w.put(n.Text, ":=")
		w.expr(n.Kids[0])
		w.put(";")
	case api.NAssign:
		w.expr(n.Kids[0])
		w.put("=")
		w.expr(n.Kids[1])
		w.put(";")
	case api.NDo:
		w.expr(n.Kids[0])
		w.put(";")
	case api.NIf:
		w.branch(n)
	case api.NFor:
		w.loop(n)
	case api.NBreak:
		w.put("break", ";")
	case api.NContinue:
		w.put("continue", ";")
	case api.NReturn:
		w.giveBack(n)
	case api.NBlock:
		w.block(n)
	default:
		w.refuse()
	}
}

func (w *writer) branch(n api.Node) {
	w.put("if")
	w.expr(n.Kids[0])
	w.block(n.Kids[1])
	for _, other := range n.Kids[2:] {
		w.put("else")
		if other.Kind == api.NIf {
			w.branch(other)
		} else {
			w.block(other)
		}
	}
}

func (w *writer) loop(n api.Node) {
	kids, body := aheadOfLast(n.Kids)
	w.put("for")
	for _, while := range kids {
		w.expr(while)
	}
	w.block(body)
}

func (w *writer) giveBack(n api.Node) {
	w.put("return")
	for _, result := range n.Kids {
		w.expr(result)
	}
	w.put(";")
}
