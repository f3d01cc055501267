package eval_test

import (
	"slices"
	"strings"

	"mortise/api"
	"mortise/kinds"
	"mortise/lex"
	"mortise/word"
)

func (w *world) eval(n api.Node, e env) any {
	w.step(1)
	switch n.Kind {
	case api.NInt:
		return n.N
	case api.NText:
		return n.Text
	case api.NBool:
		return n.N == 1
	case api.NName:
		return w.name(n, e)
	case api.NBinary:
		return w.binary(n, e)
	case api.NUnary:
		x := w.eval(n.Kids[0], e)
		if n.Op == api.Bang {
			return !x.(bool)
		}
		return 0 - x.(int64)
	case api.NCall:
		return w.calls(n, e)
	case api.NIndex:
		return w.item(w.eval(n.Kids[0], e), w.eval(n.Kids[1], e).(int64))
	case api.NSlice:
		return w.part(n, e)
	case api.NSel:
		return w.selected(n, e)
	case api.NAssert:
		return w.asserted(n, e)
	case api.NNew:
		return w.made(n, e)
	case api.NList:
		return w.listed(n, e)
	case api.NFuncLit:
		f := &funcOf{p: e.p, n: n, vars: e.vars, types: e.types}
		f.name = f.literal(n)
		w.cost += 3
		for c := e.vars; c != nil; c = c.next {
			w.cost++
		}
		return f
	case api.NMethodExpr:
		t := w.typ(n.Kids[0], e)
		return w.function(t.Pkg, t.Name, n.Text)
	}
	return nil
}

// name is a variable's value, a const's, or a function.
func (w *world) name(n api.Node, e env) any {
	if c := w.variable(n, e); c != nil {
		return c.v
	}
	pkg := e.p.tree.Text
	if n.Kind == api.NSel {
		pkg = n.Kids[0].Text
	}
	if d := w.pack(pkg).decls["."+n.Text]; d.Kind == api.DConst {
		return d.Value
	}
	return w.function(pkg, "", n.Text)
}

func (w *world) binary(n api.Node, e env) any {
	x := w.eval(n.Kids[0], e)
	if n.Op == api.AndAnd && x == false || n.Op == api.OrOr && x == true {
		return x
	}
	y := w.eval(n.Kids[1], e)
	t := w.typeAt(n.Kids[0], e)
	switch n.Op {
	case api.AndAnd, api.OrOr:
		return y
	case api.Eq, api.Ne:
		if t.Kind == api.TText {
			w.step(min(len(x.(string)), len(y.(string))))
		}
		return (x == y) == (n.Op == api.Eq)
	}
	if t.Kind == api.TText {
		s := strings.Join([]string{x.(string), y.(string)}, "")
		w.step(len(s))
		w.cost += len(s) + 4
		return s
	}
	v, code := word.Bin(n.Op, x.(int64), y.(int64))
	w.want(code == 0, code)
	if n.Op >= api.Lt {
		return v == 1
	}
	return v
}

func (w *world) item(x any, i int64) any {
	length := 0
	s, isText := x.(string)
	l, isList := x.(*list)
	if isText {
		length = len(s)
	}
	if isList {
		length = l.len
	}
	w.want(i >= 0 && i < int64(length), api.PanicIndex)
	if isText {
		return int64(s[i])
	}
	return l.array[l.at+int(i)]
}

func (w *world) part(n api.Node, e env) any {
	x := w.eval(n.Kids[0], e)
	s, isText := x.(string)
	l, isList := x.(*list)
	room, length := len(s), len(s)
	if isList {
		room, length = l.room, l.len
	}
	bounds := []int64{0, int64(length)}
	next := 1
	for bit := range 2 {
		if n.N>>bit&1 == 1 {
			bounds[bit] = w.eval(n.Kids[next], e).(int64)
			next++
		}
	}
	i, j := bounds[0], bounds[1]
	w.want(0 <= i && i <= j && j <= int64(room), api.PanicSlice)
	switch {
	case isText:
		w.cost += len(s[i:j]) + 4
		return s[i:j]
	case isList:
		w.cost += 6
		return &list{l.array, l.at + int(i), int(j - i), l.room - int(i)}
	}
	w.cost += 6
	return nil
}

func (w *world) selected(n api.Node, e env) any {
	if w.isPackage(n.Kids[0], e) {
		return w.name(n, e)
	}
	x := w.eval(n.Kids[0], e)
	t := e.p.types[n.Kids[0].At]
	if t.Kind == api.TPtr {
		if f := w.function(t.Pkg, t.Name, n.Text); f != nil {
			w.cost += 4
			f.first = []any{x}
			return f
		}
		w.want(x != nil, api.PanicNil)
		return x.(*thing).fields[n.Text]
	}
	w.want(x != nil, api.PanicNil)
	w.cost += 4
	f := w.function(x.(*thing).of.Pkg, x.(*thing).of.Name, n.Text)
	f.first = []any{x}
	return f
}

func (w *world) asserted(n api.Node, e env) any {
	x := w.eval(n.Kids[0], e)
	to := w.typeAt(n, e)
	w.want(x != nil, api.PanicType)
	if to.Kind == api.TPtr {
		w.want(kinds.Same(x.(*thing).of, to), api.PanicType)
		return x
	}
	for _, m := range kinds.Methods(w.us, nil, to) {
		has := slices.ContainsFunc(kinds.Methods(w.us, nil, x.(*thing).of), func(own api.Field) bool {
			return own.Name == m.Name && kinds.Same(own.Type, m.Type)
		})
		w.want(has, api.PanicType)
	}
	return x
}

func (w *world) made(n api.Node, e env) any {
	made := &thing{of: w.typeAt(n, e), fields: map[string]any{}}
	d := w.pack(made.of.Pkg).decls["."+made.of.Name]
	types := map[string]api.Type{}
	for _, f := range d.Fields {
		made.fields[f.Name] = w.zero(f.Type)
		types[f.Name] = f.Type
	}
	for _, key := range n.Kids[1:] {
		made.fields[key.Text] = w.as(key.Kids[0], types[key.Text], e)
	}
	w.cost += len(d.Fields) + 2
	return made
}

func (w *world) listed(n api.Node, e env) any {
	t := w.typ(n.Kids[0], e)
	var array []any
	for _, kid := range n.Kids[1:] {
		array = append(array, w.as(kid, t, e))
	}
	w.cost += len(array) + 6
	return &list{array, 0, len(array), len(array)}
}

func (w *world) calls(n api.Node, e env) any {
	args := n.Kids[1:]
	if n.Kids[0].Kind == api.NName && lex.Word(n.Kids[0].Text) {
		return w.wordCall(n.Kids[0].Text, args, e)
	}
	called := w.eval(n.Kids[0], e)
	f, _ := called.(*funcOf)
	types := w.typeAt(n.Kids[0], e).Args
	if f != nil && f.n.Kids[0].Kind == api.NTypeVar {
		f.types = w.inferred(f, args, e)
	}
	var values []any
	for i, arg := range args {
		values = append(values, w.as(arg, types[i], e))
	}
	return w.call(f, values)
}

// inferred are the types that stand in the place of a function's type variables.
func (w *world) inferred(f *funcOf, args []api.Node, e env) map[string]api.Type {
	d := f.p.decls["."+f.n.Text]
	var names []string
	var types []api.Type
	for _, v := range d.Fields {
		names = append(names, v.Name)
	}
	for _, arg := range args {
		types = append(types, w.typeAt(arg, e))
	}
	found, _ := kinds.Infer(names, d.Type.Args, types)
	made := map[string]api.Type{}
	for i, name := range names {
		made[name] = found[i]
	}
	return made
}

func (w *world) wordCall(name string, args []api.Node, e env) any {
	switch name {
	case "get":
		if len(w.in) == 0 {
			return int64(-1)
		}
		b := w.in[0]
		w.in = w.in[1:]
		return int64(b)
	case "make":
		n := w.eval(args[1], e).(int64)
		w.want(n >= 0 && n <= 1000000, api.PanicMake)
		w.step(int(n))
		w.cost += int(n) + 6
		return w.fresh(int(n), int(n), w.typ(args[0], e).Args[0])
	case "append":
		return w.appended(args, e)
	}
	x := w.eval(args[0], e)
	switch name {
	case "put":
		w.out = append(w.out, byte(x.(int64)))
	case "panic":
		w.fail(api.UserPanic + int(byte(x.(int64))))
	}
	if s, is := x.(string); is {
		return int64(len(s))
	}
	if l, is := x.(*list); is {
		return int64(l.len)
	}
	return int64(0)
}

func (w *world) fresh(length, room int, of api.Type) *list {
	l := &list{make([]any, room), 0, length, room}
	for i := range l.array {
		l.array[i] = w.zero(of)
	}
	return l
}

func (w *world) appended(args []api.Node, e env) any {
	of := w.typeAt(args[0], e).Args[0]
	s, _ := w.eval(args[0], e).(*list)
	x := w.as(args[1], of, e)
	if s == nil {
		s = &list{}
	}
	made := *s
	if s.len == s.room {
		size := max(4, 2*s.len)
		w.step(size)
		w.cost += size
		made = *w.fresh(s.len, size, of)
		copy(made.array, s.array[s.at:s.at+s.len])
	}
	w.cost += 6
	made.array[made.at+made.len] = x
	made.len++
	return &made
}
