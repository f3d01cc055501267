package export

import (
	"slices"

	"mortise/api"
)

// tooDeep tells whether a Type, MExpr or MStat of a unit stands in too many others of the three. It looks no deeper than that, since a list may stand in itself.
func tooDeep(u api.Unit) bool {
	return slices.ContainsFunc(u.Decls, deepDecl) || slices.ContainsFunc(u.Bodies, deepBody)
}

func deepDecl(d api.Decl) bool {
	return deepType(d.Type, 0) || slices.ContainsFunc(d.Fields, deepField)
}

func deepField(f api.Field) bool {
	return deepType(f.Type, 0)
}

func deepBody(f api.MFunc) bool {
	return anyDeep(f.Body, 0, deepStat)
}

// deepType tells whether a type that stands in so many others, or one within it, stands in too many.
func deepType(t api.Type, in int) bool {
	return in > api.MaxDepth || anyDeep(t.Args, in+1, deepType) || anyDeep(t.Res, in+1, deepType)
}

func deepExpr(e api.MExpr, in int) bool {
	return in > api.MaxDepth || anyDeep(e.Kids, in+1, deepExpr)
}

func deepStat(s api.MStat, in int) bool {
	return in > api.MaxDepth || anyDeep(s.Exprs, in+1, deepExpr) || anyDeep(s.Body, in+1, deepStat) || anyDeep(s.Else, in+1, deepStat)
}

func anyDeep[T any](parts []T, in int, deep func(T, int) bool) bool {
	return slices.ContainsFunc(parts, func(part T) bool { return deep(part, in) })
}
