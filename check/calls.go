package check

import (
	"slices"

	"mortise/api"
	"mortise/kinds"
	"mortise/lex"
)

// maxParts is how many parts a type has at most that is put in a type variable's place.
const maxParts = 200

func (c *checker) call(n api.Node) api.Type {
	called, args := n.Kids[0], n.Kids[1:]
	if called.Kind == api.NName && lex.Word(called.Text) {
		return c.wordCall(n, called.Text)
	}
	if d, _ := c.named(called); isGeneric(d) {
		return c.genericCall(n, d)
	}
	t := c.expr(called)
	return c.result(n, t, c.args(args))
}

// isGeneric tells whether a declaration is a function with type variables.
func isGeneric(d api.Decl) bool {
	return d.Kind == api.DFunc && len(d.Fields) > 0
}

// genericCall makes the fact of what is called, with the types put in that the arguments tell, ahead of the arguments' own ones.
func (c *checker) genericCall(n api.Node, d api.Decl) api.Type {
	at := c.fact(n.Kids[0])
	args := c.args(n.Kids[1:])
	types := c.filling(n, d, args)
	t := put(d.Type, namesOf(d.Fields), types)
	c.facts[at].Type, c.facts[at].Filled = c.kept(t), allBare(types)
	return c.result(n, t, args)
}

// result is what a call of a function with such arguments has.
func (c *checker) result(n api.Node, called api.Type, args arguments) api.Type {
	want(called.Kind == api.TFunc && len(args.types) == len(called.Args), n, api.ErrType)
	for i, arg := range args.types {
		want(c.fits(arg, called.Args[i]), n.Kids[1+i], api.ErrType)
		c.facts[args.at[i]].Wanted = bare(called.Args[i])
	}
	if len(called.Res) == 0 {
		return ofKind(api.TNone)
	}
	return called.Res[0]
}

// filling are the types that a function's type variables have in a call.
func (c *checker) filling(n api.Node, d api.Decl, args arguments) []api.Type {
	types, ok := kinds.Infer(namesOf(d.Fields), d.Type.Args, args.types)
	want(ok, n, api.ErrType)
	for i, t := range types {
		want(c.mayFill(t, d.Fields[i].Type), n, api.ErrType)
	}
	return types
}

func namesOf(fields []api.Field) []string {
	var names []string
	for _, f := range fields {
		names = append(names, f.Name)
	}
	return names
}

// put is a type with types in the place of variables. It shares these: layer 7's Put would copy each as often as it stands there.
func put(t api.Type, names []string, types []api.Type) api.Type {
	if at := slices.Index(names, t.Name); t.Kind == api.TVar && at >= 0 {
		return types[at]
	}
	t.Args = putAll(t.Args, names, types)
	t.Res = putAll(t.Res, names, types)
	return t
}

func putAll(list []api.Type, names []string, types []api.Type) []api.Type {
	var made []api.Type
	for _, t := range list {
		made = append(made, put(t, names, types))
	}
	return made
}

// mayFill tells whether a type may be put in the place of a type variable that must be what is told.
func (c *checker) mayFill(t, must api.Type) bool {
	if partsOf(t) > maxParts || hasVar(t) && t.Kind != api.TVar {
		return false
	}
	switch must.Kind {
	case api.TNone:
		return true
	case api.TBool:
		return kinds.Comparable(c.vars, t)
	}
	return c.fits(t, must)
}

// wordCall is what a call of one of the language's words has.
func (c *checker) wordCall(n api.Node, word string) api.Type {
	if word == "make" {
		return c.makeCall(n)
	}
	want(len(n.Kids)-1 == argsOf(word), n, api.ErrType)
	args := c.args(n.Kids[1:])
	switch word {
	case "len":
		want(args.types[0].Kind == api.TSlice || args.types[0].Kind == api.TText, n, api.ErrType)
		return ofKind(api.TInt)
	case "append":
		return c.appended(n, args)
	case "get":
		return ofKind(api.TInt)
	}
	want(args.types[0].Kind == api.TInt, n, api.ErrType)
	return ofKind(api.TNone)
}

func (c *checker) appended(n api.Node, args arguments) api.Type {
	element, ok := elementOf(args.types[0])
	want(ok && c.fits(args.types[1], element), n, api.ErrType)
	c.facts[args.at[1]].Wanted = bare(element)
	return args.types[0]
}

// argsOf is how many arguments a word wants that can be called.
func argsOf(word string) int {
	switch word {
	case "append":
		return 2
	case "get":
		return 0
	}
	return 1
}

func (c *checker) makeCall(n api.Node) api.Type {
	t := c.typeOf(n.Kids[1])
	want(t.Kind == api.TSlice, n.Kids[1], api.ErrType)
	c.checkKind(n.Kids[2], api.TInt)
	return t
}
