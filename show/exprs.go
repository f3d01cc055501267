package show

import (
	"strconv"

	"mortise/api"
	"mortise/lex"
	"mortise/parse"
)

// How strongly expressions bind that are none of two, whose strengths layer 5's Sign tells: more strongly than all of those.
const (
	bindsOne   = 6 // with a sign ahead
	bindsFirst = 7 // of what else may stand behind
)

// strength is how strongly an expression binds.
func strength(n api.Node) int {
	switch n.Kind {
	case api.NBinary:
		_, binds := parse.Sign(n.Op)
		return binds
	case api.NUnary, api.NNew:
		return bindsOne
	}
	return bindsFirst
}

// within writes an expression that is part of another one: in brackets, if it does not bind at least so strongly.
func (w *writer) within(n api.Node, least int) {
	if strength(n) >= least {
		w.expr(n)
		return
	}
	w.put("(")
	w.expr(n)
	w.put(")")
}

// expr writes an expression.
func (w *writer) expr(n api.Node) {
	switch n.Kind {
	case api.NBinary:
		w.binary(n)
	case api.NUnary:
		w.unary(n)
	case api.NNew:
		w.newStruct(n)
	case api.NCall:
		w.call(n)
	case api.NIndex, api.NSlice, api.NSel, api.NAssert:
		w.behind(n)
	case api.NMethodExpr:
		w.put("(", "*")
		w.typeName(n.Kids[0])
		w.put(")", ".", n.Text)
	case api.NList:
		w.put("[", "]")
		w.typeOf(n.Kids[0])
		w.put("{")
		w.list(n.Kids[1:], w.expr)
		w.put("}")
	case api.NFuncLit:
		kids, body := aheadOfLast(n.Kids)
		w.put("func")
		w.head(n, kids, w.param)
		w.block(body)
	default:
		w.single(n)
	}
}

// single writes an expression of one token.
func (w *writer) single(n api.Node) {
	switch n.Kind {
	case api.NInt:
		w.put(strconv.FormatInt(n.N, 10))
	case api.NText:
		w.put(quoted(n.Text))
	case api.NBool:
		w.put(strconv.FormatBool(n.N == 1))
	case api.NNil:
		w.put("nil")
	case api.NName:
		// Words stand as names only where they are called.
		if lex.Word(n.Text) {
			w.refuse()
		}
		w.put(n.Text)
	default:
		w.refuse()
	}
}

// binary writes an operation of two: of those of one strength layer 5 takes the left one as the inner one.
func (w *writer) binary(n api.Node) {
	sign, binds := parse.Sign(n.Op)
	w.within(n.Kids[0], binds)
	w.put(sign)
	w.within(n.Kids[1], binds+1)
}

func (w *writer) unary(n api.Node) {
	switch n.Op {
	case api.Neg:
		w.put("-")
	case api.Bang:
		w.put("!")
	}
	w.within(n.Kids[0], bindsOne)
}

func (w *writer) newStruct(n api.Node) {
	w.put("&")
	w.typeName(n.Kids[0])
	w.put("{")
	w.list(n.Kids[1:], w.key)
	w.put("}")
}

func (w *writer) key(n api.Node) {
	if w.is(n, api.NKey) {
		w.put(n.Text, ":")
		w.expr(n.Kids[0])
	}
}

func (w *writer) call(n api.Node) {
	called, args := n.Kids[0], n.Kids[1:]
	switch {
	case called.Kind != api.NName:
		w.within(called, bindsFirst)
	case called.Text == "make":
		w.makeCall(args)
		return
	default:
		w.put(called.Text)
	}
	w.put("(")
	w.list(args, w.expr)
	w.put(")")
}

func (w *writer) makeCall(args []api.Node) {
	if len(args) != 2 {
		w.refuse()
		return
	}
	w.put("make", "(")
	w.typeOf(args[0])
	w.put(",")
	w.expr(args[1])
	w.put(")")
}

// behind writes what stands in [ ], or behind a point, behind an expression.
func (w *writer) behind(n api.Node) {
	w.within(n.Kids[0], bindsFirst)
	switch n.Kind {
	case api.NIndex:
		w.put("[")
		w.expr(n.Kids[1])
		w.put("]")
	case api.NSlice:
		w.bounds(n)
	case api.NSel:
		w.put(".", n.Text)
	case api.NAssert:
		w.put(".", "(")
		w.typeOf(n.Kids[1])
		w.put(")")
	}
}

// bounds writes the bounds of a piece, those that are there.
func (w *writer) bounds(n api.Node) {
	from := n.Kids[1 : 1+n.N&1]
	w.put("[")
	w.list(from, w.expr)
	w.put(":")
	w.list(n.Kids[1+len(from):], w.expr)
	w.put("]")
}
