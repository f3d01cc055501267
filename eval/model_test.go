package eval_test

import (
	"slices"
	"strconv"

	"mortise/api"
	"mortise/check"
	"mortise/inits"
	"mortise/kinds"
	"mortise/parse"
	"mortise/prog"
)

// The functions of this file and the next one tell the chapter a second time. They walk the trees as they are, with whole types; variables are found by their names.

// world is a run of the model.
type world struct {
	packs []*pack
	us    []api.Unit
	left  int
	cost  int
	in    []byte
	out   []byte
	open  []string
	syms  []api.Sym
	most  int
}

// pack is a package of the model.
type pack struct {
	tree  api.Node
	unit  api.Unit
	types map[int]api.Type
	vars  map[string]*cell
	decls map[string]api.Decl // of methods by their structs and names
	nodes map[string]api.Node
	order []int
}

// cell is a variable, with those that were known ahead of it.
type cell struct {
	name string
	v    any
	next *cell
}

// env is what is known where something is gone through.
type env struct {
	p      *pack
	vars   *cell
	types  map[string]api.Type // of type variables
	result []api.Type
	loop   bool
}

// list is a slice of the model: an array and three numbers.
type list struct {
	array         []any
	at, len, room int
}

// thing is a struct of the model.
type thing struct {
	of     api.Type
	fields map[string]any
}

// funcOf is a func of the model.
type funcOf struct {
	p     *pack
	n     api.Node
	name  string
	first []any
	vars  *cell
	types map[string]api.Type
}

// stop is how a run of the model stops.
type stop struct{ kind, code int }

func (w *world) fail(code int) { panic(stop{api.RunPanic, code}) }

func (w *world) want(holds bool, code int) {
	if !holds {
		w.fail(code)
	}
}

func (w *world) step(n int) {
	if n > w.left {
		w.left = 0
		panic(stop{api.RunFuel, 0})
	}
	w.left -= n
}

// model is a program that can be run by the model.
func model(texts []string) *world {
	order, us, _, _ := prog.Load(texts)
	w := &world{us: us}
	for i, number := range order {
		tree, _, _ := parse.Parse(texts[number])
		_, notes, _, _ := check.Check(tree, us[:i])
		p := &pack{tree: tree, unit: us[i], types: map[int]api.Type{}, vars: map[string]*cell{}, decls: map[string]api.Decl{}, nodes: map[string]api.Node{}}
		for _, n := range notes {
			p.types[n.At] = n.Type
		}
		for j, d := range us[i].Decls {
			p.decls[d.Of+"."+d.Name] = d
			p.nodes[d.Of+"."+d.Name] = tree.Kids[len(us[i].Imports)+j]
		}
		p.order, _, _ = inits.Order(tree, us[:i])
		w.packs = append(w.packs, p)
	}
	return w
}

// run is a run of the program, its cost and the most that calls need.
func (w *world) run(in []byte, fuel int, syms []api.Sym) (o api.Outcome, cost, most int) {
	fuel = max(0, min(fuel, api.MaxFuel))
	w = &world{packs: w.packs, us: w.us, left: fuel, in: in, syms: syms}
	for _, p := range w.packs {
		for name, d := range p.decls {
			if d.Kind == api.DVar {
				p.vars[name[1:]] = &cell{v: w.zero(d.Type)}
			}
		}
	}
	defer func() {
		if gave := recover(); gave != nil {
			o.Kind, o.Code = gave.(stop).kind, gave.(stop).code
		}
		o.Out, o.Steps, cost, most = w.out[:min(len(w.out), api.MaxOut)], fuel-w.left, w.cost, w.most
	}()
	for _, p := range w.packs {
		w.begin(p)
	}
	w.call(w.function("main", "", "main"), nil)
	o.Kind = api.RunDone
	return
}

func (w *world) begin(p *pack) {
	var vars []api.Node
	for _, n := range p.tree.Kids {
		if n.Kind == api.NVar {
			vars = append(vars, n)
		}
	}
	w.enter(p.tree.Text + "#")
	for _, i := range p.order {
		p.vars[vars[i].Text].v = w.as(vars[i].Kids[1], p.decls["."+vars[i].Text].Type, env{p: p})
	}
	w.open = w.open[:0]
}

func (w *world) enter(name string) {
	if len(w.open) >= api.MaxOpen {
		panic(stop{api.RunStack, 0})
	}
	w.open = append(w.open, name)
	need := 0
	for _, name := range w.open {
		need += 16
		if i := slices.IndexFunc(w.syms, func(s api.Sym) bool { return s.Name == name }); i >= 0 && w.syms[i].Frame >= 0 && w.syms[i].Frame <= api.MaxMem {
			need += w.syms[i].Frame
		}
	}
	w.most = max(w.most, need)
}

func (w *world) zero(t api.Type) any {
	switch t.Kind {
	case api.TInt:
		return int64(0)
	case api.TBool:
		return false
	case api.TText:
		return ""
	}
	return nil
}

func (w *world) pack(name string) *pack {
	i := slices.IndexFunc(w.packs, func(p *pack) bool { return p.tree.Text == name })
	return w.packs[i]
}

// function is a function of a package, or a method.
func (w *world) function(pkg, of, name string) *funcOf {
	p := w.pack(pkg)
	n, is := p.nodes[of+"."+name]
	switch {
	case !is:
		return nil
	case of == "":
		return &funcOf{p: p, n: n, name: pkg + "." + name}
	}
	return &funcOf{p: p, n: n, name: pkg + "." + of + "." + name}
}

func (w *world) declare(e *env, name string, v any) {
	w.cost += 2
	e.vars = &cell{name, v, e.vars}
}

func (w *world) call(f *funcOf, args []any) any {
	w.want(f != nil, api.PanicNil)
	w.enter(f.name)
	e := env{p: f.p, vars: f.vars, types: f.types}
	args = slices.Concat(f.first, args)
	for _, kid := range f.n.Kids {
		switch kid.Kind {
		case api.NTypeVar:
			w.cost += 4
		case api.NParam:
			w.declare(&e, kid.Text, args[0])
			args = args[1:]
		}
	}
	last := len(f.n.Kids) - 1
	if f.n.N == 1 {
		e.result = []api.Type{w.typ(f.n.Kids[last-1], e)}
	}
	_, v := w.stats(f.n.Kids[last].Kids, e)
	w.open = w.open[:len(w.open)-1]
	return v
}

// How it goes on behind a statement of the model.
const (
	goOn     = ""
	isBreak  = "break"
	isNext   = "continue"
	isReturn = "return"
)

func (w *world) stats(nodes []api.Node, e env) (string, any) {
	for _, n := range nodes {
		w.step(1)
		if how, v := w.stat(n, &e); how != goOn {
			return how, v
		}
	}
	return goOn, nil
}

func (w *world) stat(n api.Node, e *env) (string, any) {
	switch n.Kind {
	case api.NVar:
		t := w.typ(n.Kids[0], *e)
		v := w.zero(t)
		if len(n.Kids) == 2 {
			v = w.as(n.Kids[1], t, *e)
		}
		w.declare(e, n.Text, v)
	case api.NDefine:
		w.declare(e, n.Text, w.eval(n.Kids[0], *e))
	case api.NAssign:
		w.assign(n.Kids[0], n.Kids[1], *e)
	case api.NDo:
		w.eval(n.Kids[0], *e)
	case api.NIf:
		return w.branch(n, *e)
	case api.NFor:
		for {
			w.step(1)
			if n.N == 1 && !w.eval(n.Kids[0], *e).(bool) {
				return goOn, nil
			}
			how, v := w.stats(n.Kids[len(n.Kids)-1].Kids, *e)
			if how == isBreak {
				return goOn, nil
			}
			if how == isReturn {
				return how, v
			}
		}
	case api.NBreak:
		return isBreak, nil
	case api.NContinue:
		return isNext, nil
	case api.NReturn:
		if len(n.Kids) == 0 {
			return isReturn, nil
		}
		return isReturn, w.as(n.Kids[0], e.result[0], *e)
	case api.NBlock:
		return w.stats(n.Kids, *e)
	}
	return goOn, nil
}

func (w *world) branch(n api.Node, e env) (string, any) {
	if w.eval(n.Kids[0], e).(bool) {
		return w.stats(n.Kids[1].Kids, e)
	}
	if len(n.Kids) < 3 {
		return goOn, nil
	}
	if n.Kids[2].Kind == api.NBlock {
		return w.stats(n.Kids[2].Kids, e)
	}
	return w.stats(n.Kids[2:], e)
}

func (w *world) assign(left, right api.Node, e env) {
	t := w.typeAt(left, e)
	if left.Kind == api.NName || left.Kind == api.NSel && w.isPackage(left.Kids[0], e) {
		c := w.variable(left, e)
		c.v = w.as(right, t, e)
		return
	}
	x := w.eval(left.Kids[0], e)
	if left.Kind == api.NSel {
		v := w.as(right, t, e)
		w.want(x != nil, api.PanicNil)
		x.(*thing).fields[left.Text] = v
		return
	}
	i := w.eval(left.Kids[1], e).(int64)
	v := w.as(right, t, e)
	w.want(x != nil && i >= 0 && i < int64(x.(*list).len), api.PanicIndex)
	x.(*list).array[x.(*list).at+int(i)] = v
}

// variable is the variable that an expression names, if it names one.
func (w *world) variable(n api.Node, e env) *cell {
	if n.Kind == api.NSel {
		return w.pack(n.Kids[0].Text).vars[n.Text]
	}
	for c := e.vars; c != nil; c = c.next {
		if c.name == n.Text {
			return c
		}
	}
	return e.p.vars[n.Text]
}

func (w *world) isPackage(n api.Node, e env) bool {
	if n.Kind != api.NName || w.variable(n, e) != nil {
		return false
	}
	return slices.ContainsFunc(e.p.tree.Kids, func(k api.Node) bool { return k.Kind == api.NImport && k.Text == n.Text })
}

// typeAt is an expression's type, with types in the place of variables.
func (w *world) typeAt(n api.Node, e env) api.Type {
	return filled(e.p.types[n.At], e)
}

func filled(t api.Type, e env) api.Type {
	if len(e.types) == 0 {
		return t
	}
	var names []string
	var types []api.Type
	for name, t := range e.types {
		names, types = append(names, name), append(types, t)
	}
	return kinds.Put(t, names, types)
}

// typ is the type that a node means, with types in the place of variables.
func (w *world) typ(n api.Node, e env) api.Type {
	switch n.Kind {
	case api.NPtr:
		t := w.typ(n.Kids[0], e)
		t.Kind = api.TPtr
		return t
	case api.NSliceOf:
		return api.Type{Kind: api.TSlice, Args: []api.Type{w.typ(n.Kids[0], e)}}
	case api.NFuncOf:
		return api.Type{Kind: api.TFunc}
	}
	if kind := map[string]int{"int": api.TInt, "bool": api.TBool, "string": api.TText}[n.Text]; kind != 0 {
		return api.Type{Kind: kind}
	}
	if t, is := e.types[n.Text]; is && n.Pkg == "" {
		return t
	}
	t := api.Type{Kind: api.TIface, Pkg: e.p.tree.Text, Name: n.Text}
	if n.Pkg != "" {
		t.Pkg = n.Pkg
	}
	return t
}

// as is an expression that stands where a type is wanted.
func (w *world) as(n api.Node, to api.Type, e env) any {
	v := w.eval(n, e)
	w.want(v != nil || w.typeAt(n, e).Kind != api.TPtr || to.Kind != api.TIface, api.PanicNil)
	return v
}

func (f *funcOf) literal(n api.Node) string { return f.p.tree.Text + "@" + strconv.Itoa(n.At) }
