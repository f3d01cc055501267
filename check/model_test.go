package check_test

import (
	"cmp"
	"slices"
	"strings"

	"mortise/api"
	"mortise/export"
	"mortise/kinds"
	"mortise/lex"
)

// The functions of this file tell the chapter a second time. They go on behind what is wrong, so that all rules are known that are broken.

// model is a package that is held against the rules.
type model struct {
	us     []api.Unit // the package's own first
	is     map[string]int
	notes  []api.Note
	broken map[api.Errno]bool
}

// around is what is known where a node stands.
type around struct {
	vars   []api.Field
	scopes []map[string]api.Type
	result []api.Type
	loop   bool
}

// unknown is the type of what is wrong already: no rule is broken by it once more.
func unknown() api.Type { return typ(-1) }

func isUnknown(t api.Type) bool { return t.Kind == -1 }

func typ(kind int) api.Type { return api.Type{Kind: kind} }

func (m *model) want(holds bool, e api.Errno) bool {
	if !holds {
		m.broken[e] = true
	}
	return holds
}

func modelCheck(n api.Node, us []api.Unit) (api.Unit, []api.Note, map[api.Errno]bool) {
	m := &model{us: append([]api.Unit{{Pkg: n.Text}}, us...), is: map[string]int{}, broken: map[api.Errno]bool{}}
	for _, d := range n.Kids {
		m.declare(d)
	}
	next := 0
	for _, d := range n.Kids {
		if d.Kind != api.NImport {
			m.us[0].Decls[next].Type, m.us[0].Decls[next].Fields = m.head(d)
			next++
		}
	}
	for _, d := range n.Kids {
		m.members(d, n.Kids)
	}
	for _, d := range n.Kids {
		m.body(d)
	}
	slices.SortStableFunc(m.notes, func(a, b api.Note) int { return cmp.Compare(a.At, b.At) })
	return m.us[0], m.notes, m.broken
}

func (m *model) declare(n api.Node) {
	decls := map[int]int{api.NConst: api.DConst, api.NVar: api.DVar, api.NStruct: api.DStruct, api.NIface: api.DIface, api.NFunc: api.DFunc, api.NMethod: api.DMethod}
	if n.Kind != api.NMethod {
		_, twice := m.is[n.Text]
		m.want(!twice, api.ErrTwice)
		m.is[n.Text] = n.Kind
	}
	if n.Kind == api.NImport {
		m.want(n.Text != m.us[0].Pkg, api.ErrName)
		hash := int64(0)
		if i := slices.IndexFunc(m.us[1:], func(u api.Unit) bool { return u.Pkg == n.Text }); m.want(i >= 0, api.ErrName) {
			hash = export.Hash(m.us[1:][i])
		}
		m.us[0].Imports = append(m.us[0].Imports, api.Import{Name: n.Text, Hash: hash})
		return
	}
	d := api.Decl{Kind: decls[n.Kind], Name: n.Text}
	switch n.Kind {
	case api.NConst:
		d.Value = n.N
	case api.NMethod:
		d.Of = n.Kids[0].Kids[0].Kids[0].Text
	}
	m.us[0].Decls = append(m.us[0].Decls, d)
}

// parts are the type variables, the parameters, the types of results and the block of what has them.
func parts(n api.Node) (vars, params, results, blocks []api.Node) {
	for _, kid := range n.Kids {
		switch kid.Kind {
		case api.NTypeVar:
			vars = append(vars, kid)
		case api.NParam:
			params = append(params, kid)
		case api.NBlock:
			blocks = append(blocks, kid)
		default:
			results = append(results, kid)
		}
	}
	return
}

func (m *model) function(params, results []api.Node, a around) api.Type {
	t := typ(api.TFunc)
	m.want(len(params) <= api.MaxList, api.ErrType)
	for _, p := range params {
		if p.Kind == api.NParam {
			p = p.Kids[0]
		}
		t.Args = append(t.Args, m.typ(p, a))
	}
	for _, r := range results {
		t.Res = append(t.Res, m.typ(r, a))
	}
	return t
}

func (m *model) head(n api.Node) (api.Type, []api.Field) {
	vars, params, results, _ := parts(n)
	switch n.Kind {
	case api.NVar:
		return m.typ(n.Kids[0], around{}), nil
	case api.NStruct, api.NIface:
		m.want(len(n.Kids) <= api.MaxList, api.ErrType)
		var fields []api.Field
		for _, kid := range n.Kids {
			f := api.Field{Name: kid.Text}
			if kid.Kind == api.NField {
				f.Type = m.typ(kid.Kids[0], around{})
			} else {
				f.Type = m.function(kid.Kids[:len(kid.Kids)-int(kid.N)], kid.Kids[len(kid.Kids)-int(kid.N):], around{})
			}
			fields = append(fields, f)
		}
		return api.Type{}, fields
	case api.NFunc:
		fields := m.typeVars(vars)
		return m.function(params, results, around{vars: fields}), fields
	case api.NMethod:
		m.typ(params[0].Kids[0], around{})
		return m.function(params[1:], results, around{}), nil
	}
	return api.Type{}, nil
}

func (m *model) typeVars(vars []api.Node) []api.Field {
	m.want(len(vars) <= api.MaxList, api.ErrType)
	m.unlike(vars)
	var fields []api.Field
	for _, v := range vars {
		must := typ(int(v.N) * api.TBool)
		if v.N == 2 {
			must = unknown()
			named := v.Kids[0]
			if slices.ContainsFunc(vars, func(w api.Node) bool { return named.Pkg == "" && w.Text == named.Text }) {
				m.want(false, api.ErrType)
			} else if pkg, d, ok := m.meant(named); ok && m.want(d.Kind == api.DIface, api.ErrType) {
				must = api.Type{Kind: api.TIface, Pkg: pkg, Name: d.Name}
			}
		}
		fields = append(fields, api.Field{Name: v.Text, Type: must})
	}
	return fields
}

func (m *model) unlike(nodes []api.Node) {
	for i, n := range nodes {
		for _, other := range nodes[:i] {
			m.want(n.Text != other.Text, api.ErrTwice)
		}
	}
}

func (m *model) members(n api.Node, all []api.Node) {
	if n.Kind != api.NStruct && n.Kind != api.NIface {
		return
	}
	list := slices.Clone(n.Kids)
	for _, d := range all {
		if d.Kind == api.NMethod && d.Kids[0].Kids[0].Kids[0].Text == n.Text && n.Kind == api.NStruct {
			list = append(list, d)
		}
	}
	m.unlike(list)
}

func (m *model) open(pkg, name string) bool {
	return pkg == m.us[0].Pkg || name[0] >= 'A' && name[0] <= 'Z'
}

// meant is what a type's name means that is no type variable's.
func (m *model) meant(n api.Node) (string, api.Decl, bool) {
	if n.Pkg != "" {
		d, ok := kinds.Find(m.us, n.Pkg, n.Text)
		ok = m.want(ok && m.is[n.Pkg] == api.NImport && m.open(n.Pkg, n.Text), api.ErrName)
		return n.Pkg, d, ok
	}
	if !m.want(m.is[n.Text] != 0, api.ErrName) || !m.want(m.is[n.Text] != api.NImport, api.ErrType) {
		return "", api.Decl{}, false
	}
	d, ok := kinds.Find(m.us, m.us[0].Pkg, n.Text)
	return m.us[0].Pkg, d, ok
}

func (m *model) pointer(n api.Node, a around) api.Type {
	for _, v := range a.vars {
		if n.Pkg == "" && v.Name == n.Text {
			m.want(false, api.ErrType)
			return unknown()
		}
	}
	pkg, d, ok := m.meant(n)
	if !ok || !m.want(d.Kind == api.DStruct, api.ErrType) {
		return unknown()
	}
	return api.Type{Kind: api.TPtr, Pkg: pkg, Name: n.Text}
}

func (m *model) typ(n api.Node, a around) api.Type {
	switch n.Kind {
	case api.NPtr:
		return m.pointer(n.Kids[0], a)
	case api.NSliceOf:
		return api.Type{Kind: api.TSlice, Args: []api.Type{m.typ(n.Kids[0], a)}}
	case api.NFuncOf:
		return m.function(n.Kids[:len(n.Kids)-int(n.N)], n.Kids[len(n.Kids)-int(n.N):], a)
	}
	if kind := map[string]int{"int": api.TInt, "bool": api.TBool, "string": api.TText}[n.Text]; kind != 0 {
		return typ(kind)
	}
	for _, v := range a.vars {
		if n.Pkg == "" && v.Name == n.Text {
			return api.Type{Kind: api.TVar, Name: v.Name}
		}
	}
	pkg, d, ok := m.meant(n)
	if !ok || !m.want(d.Kind == api.DIface, api.ErrType) {
		return unknown()
	}
	return api.Type{Kind: api.TIface, Pkg: pkg, Name: n.Text}
}

func (m *model) body(n api.Node) {
	vars, params, results, blocks := parts(n)
	switch n.Kind {
	case api.NVar:
		if t := m.quietly(func() api.Type { return m.typ(n.Kids[0], around{}) }); len(n.Kids) == 2 {
			m.fits(n.Kids[1], t, around{})
		}
	case api.NFunc, api.NMethod:
		a := around{}
		m.quietly(func() api.Type { a.vars = m.typeVars(vars); return api.Type{} })
		m.routine(params, results, blocks[0], a)
	}
}

// quietly tells a type once more, without what is wrong there.
func (m *model) quietly(do func() api.Type) api.Type {
	broken := m.broken
	m.broken = map[api.Errno]bool{}
	t := do()
	m.broken = broken
	return t
}

func (m *model) routine(params, results []api.Node, block api.Node, a around) {
	a.result, a.loop = nil, false
	a.scopes = append(slices.Clone(a.scopes), map[string]api.Type{})
	for _, r := range results {
		a.result = append(a.result, m.quietly(func() api.Type { return m.typ(r, a) }))
	}
	for _, p := range params {
		m.known(p, m.quietly(func() api.Type { return m.typ(p.Kids[0], a) }), a)
	}
	for _, s := range block.Kids {
		m.stat(s, a)
	}
	m.want(len(results) == 0 || stops(block), api.ErrType)
}

func (m *model) known(n api.Node, t api.Type, a around) {
	scope := a.scopes[len(a.scopes)-1]
	_, twice := scope[n.Text]
	m.want(!twice, api.ErrTwice)
	scope[n.Text] = t
}

// stops tells whether one never comes behind a statement.
func stops(n api.Node) bool {
	switch n.Kind {
	case api.NReturn:
		return true
	case api.NDo:
		return n.Kids[0].Kind == api.NCall && n.Kids[0].Kids[0].Text == "panic" && n.Kids[0].Kids[0].Kind == api.NName
	case api.NBlock:
		return len(n.Kids) > 0 && stops(n.Kids[len(n.Kids)-1])
	case api.NIf:
		return len(n.Kids) == 3 && stops(n.Kids[1]) && stops(n.Kids[2])
	case api.NFor:
		return n.N == 0 && breaks(n.Kids[0]) == 0
	}
	return false
}

// breaks is how many breaks leave the for about a statement.
func breaks(n api.Node) int {
	count := 0
	switch n.Kind {
	case api.NBreak:
		return 1
	case api.NBlock:
		for _, kid := range n.Kids {
			count += breaks(kid)
		}
	case api.NIf:
		for _, kid := range n.Kids[1:] {
			count += breaks(kid)
		}
	}
	return count
}

func (m *model) block(n api.Node, a around) {
	a.scopes = append(slices.Clone(a.scopes), map[string]api.Type{})
	for _, s := range n.Kids {
		m.stat(s, a)
	}
}

func (m *model) stat(n api.Node, a around) {
	switch n.Kind {
	case api.NVar:
		t := m.typ(n.Kids[0], a)
		if len(n.Kids) == 2 {
			m.fits(n.Kids[1], t, a)
		}
		m.known(n, t, a)
	case api.NDefine:
		t, _ := m.expr(n.Kids[0], a)
		if !m.want(t.Kind != api.TNone && t.Kind != api.TNil, api.ErrType) {
			t = unknown()
		}
		m.known(n, t, a)
	case api.NAssign:
		t, place := m.expr(n.Kids[0], a)
		m.want(place || isUnknown(t), api.ErrType)
		m.fits(n.Kids[1], t, a)
	case api.NDo:
		call := n.Kids[0]
		m.want(call.Kind == api.NCall && !(call.Kids[0].Kind == api.NName && slices.Contains([]string{"len", "append", "make"}, call.Kids[0].Text)), api.ErrType)
		m.expr(call, a)
	case api.NIf:
		m.of(n.Kids[0], a, api.TBool)
		m.block(n.Kids[1], a)
		if len(n.Kids) == 3 {
			m.stat(n.Kids[2], a)
		}
	case api.NFor:
		if n.N == 1 {
			m.of(n.Kids[0], a, api.TBool)
		}
		a.loop = true
		m.block(n.Kids[len(n.Kids)-1], a)
	case api.NBreak, api.NContinue:
		m.want(a.loop, api.ErrType)
	case api.NReturn:
		m.want(len(n.Kids) == len(a.result), api.ErrType)
		for _, kid := range n.Kids {
			m.fits(kid, append(slices.Clone(a.result), unknown())[0], a)
		}
	case api.NBlock:
		m.block(n, a)
	}
}

func (m *model) may(from, to api.Type, a around) bool {
	return isUnknown(from) || isUnknown(to) || hasUnknown(from) || hasUnknown(to) || kinds.Fits(m.us, a.vars, from, to)
}

func hasUnknown(t api.Type) bool {
	return isUnknown(t) || slices.ContainsFunc(t.Args, hasUnknown) || slices.ContainsFunc(t.Res, hasUnknown)
}

func (m *model) fits(n api.Node, to api.Type, a around) {
	t, _ := m.expr(n, a)
	m.want(m.may(t, to, a), api.ErrType)
}

// of wants an expression to have a type of one of several kinds.
func (m *model) of(n api.Node, a around, of ...int) api.Type {
	t, _ := m.expr(n, a)
	if !isUnknown(t) && !m.want(slices.Contains(of, t.Kind), api.ErrType) {
		return unknown()
	}
	return t
}

// expr is an expression's type, and whether something can be stored there.
func (m *model) expr(n api.Node, a around) (api.Type, bool) {
	i := len(m.notes)
	m.notes = append(m.notes, api.Note{At: n.At})
	t, place := m.meaning(n, a)
	m.notes[i].Type = t
	return t, place
}

func (m *model) local(name string, a around) (api.Type, bool) {
	for _, scope := range slices.Backward(a.scopes) {
		if t, ok := scope[name]; ok {
			return t, true
		}
	}
	return api.Type{}, false
}

// declared is what an expression names of a package, if it does.
func (m *model) declared(n api.Node, a around) (api.Decl, bool) {
	pkg, name := m.us[0].Pkg, n.Text
	switch n.Kind {
	case api.NName:
		if _, hidden := m.local(name, a); hidden {
			return api.Decl{}, false
		}
		if m.is[name] == api.NImport {
			return api.Decl{}, true
		}
	case api.NSel:
		pkg = n.Kids[0].Text
		if _, hidden := m.local(pkg, a); hidden || n.Kids[0].Kind != api.NName || m.is[pkg] != api.NImport {
			return api.Decl{}, false
		}
	default:
		return api.Decl{}, false
	}
	d, ok := kinds.Find(m.us, pkg, name)
	if !m.want(ok && m.open(pkg, name), api.ErrName) {
		return api.Decl{Kind: -1}, true
	}
	return d, true
}

func (m *model) meaning(n api.Node, a around) (api.Type, bool) {
	if d, ok := m.declared(n, a); ok {
		switch {
		case d.Kind == -1:
			return unknown(), false
		case d.Kind == api.DConst:
			return typ(api.TInt), false
		case d.Kind == api.DVar || d.Kind == api.DFunc && len(d.Fields) == 0:
			return d.Type, d.Kind == api.DVar
		}
		m.want(false, api.ErrType)
		return unknown(), false
	}
	switch n.Kind {
	case api.NName:
		t, _ := m.local(n.Text, a)
		return t, true
	case api.NSel:
		t := m.of(n.Kids[0], a, api.TPtr, api.TIface, api.TVar)
		return m.member(n, t, a, true, true)
	case api.NIndex:
		t := m.of(n.Kids[0], a, api.TSlice, api.TText)
		m.of(n.Kids[1], a, api.TInt)
		switch t.Kind {
		case api.TSlice:
			return t.Args[0], true
		case api.TText:
			return typ(api.TInt), false
		}
		return unknown(), false
	}
	return m.value(n, a), false
}

// member is the field, or the method, that a node names of a type.
func (m *model) member(n api.Node, t api.Type, a around, fields, methods bool) (api.Type, bool) {
	if isUnknown(t) {
		return t, false
	}
	if t.Kind != api.TPtr || m.open(t.Pkg, n.Text) {
		d, _ := kinds.Find(m.us, t.Pkg, t.Name)
		for _, f := range d.Fields {
			if fields && t.Kind == api.TPtr && f.Name == n.Text {
				return f.Type, true
			}
		}
		for _, f := range kinds.Methods(m.us, a.vars, t) {
			if methods && f.Name == n.Text {
				return f.Type, false
			}
		}
	}
	m.want(false, api.ErrName)
	return unknown(), false
}

func (m *model) value(n api.Node, a around) api.Type {
	switch n.Kind {
	case api.NInt, api.NText, api.NBool, api.NNil:
		return typ(map[int]int{api.NInt: api.TInt, api.NText: api.TText, api.NBool: api.TBool, api.NNil: api.TNil}[n.Kind])
	case api.NBinary:
		return m.binary(n, a)
	case api.NUnary:
		kind := map[int]int{api.Neg: api.TInt, api.Bang: api.TBool}[n.Op]
		m.of(n.Kids[0], a, kind)
		return typ(kind)
	case api.NCall:
		return m.call(n, a)
	case api.NSlice:
		t := m.of(n.Kids[0], a, api.TSlice, api.TText)
		for _, kid := range n.Kids[1:] {
			m.of(kid, a, api.TInt)
		}
		return t
	case api.NAssert:
		from, to := m.of(n.Kids[0], a, api.TIface), m.typ(n.Kids[1], a)
		m.want(isUnknown(to) || to.Kind == api.TIface || to.Kind == api.TPtr && m.may(to, from, a), api.ErrType)
		return to
	case api.NNew:
		t := m.pointer(n.Kids[0], a)
		m.unlike(n.Kids[1:])
		for _, key := range n.Kids[1:] {
			f, _ := m.member(key, t, a, true, false)
			m.fits(key.Kids[0], f, a)
		}
		return t
	case api.NList:
		t := m.typ(n.Kids[0], a)
		for _, kid := range n.Kids[1:] {
			m.fits(kid, t, a)
		}
		return api.Type{Kind: api.TSlice, Args: []api.Type{t}}
	case api.NFuncLit:
		_, params, results, blocks := parts(n)
		t := m.function(params, results, a)
		m.routine(params, results, blocks[0], a)
		return t
	case api.NMethodExpr:
		of := m.pointer(n.Kids[0], a)
		t, _ := m.member(n, of, a, false, true)
		if !isUnknown(t) {
			t.Args = slices.Concat([]api.Type{of}, t.Args)
		}
		return t
	}
	panic("no expression")
}

func (m *model) binary(n api.Node, a around) api.Type {
	x, _ := m.expr(n.Kids[0], a)
	y, _ := m.expr(n.Kids[1], a)
	both := func(kind int) bool {
		return (x.Kind == kind || isUnknown(x)) && (y.Kind == kind || isUnknown(y))
	}
	switch n.Op {
	case api.Eq, api.Ne:
		nils := func(x, y api.Type) bool {
			return x.Kind == api.TNil && slices.Contains([]int{api.TPtr, api.TSlice, api.TFunc, api.TIface}, y.Kind)
		}
		if !hasUnknown(x) && !hasUnknown(y) {
			fit := kinds.Fits(m.us, a.vars, x, y) || kinds.Fits(m.us, a.vars, y, x)
			m.want(fit && kinds.Comparable(a.vars, x) && kinds.Comparable(a.vars, y) || nils(x, y) || nils(y, x), api.ErrType)
		}
		return typ(api.TBool)
	case api.AndAnd, api.OrOr:
		m.want(both(api.TBool), api.ErrType)
		return typ(api.TBool)
	case api.Lt, api.Le, api.Gt, api.Ge:
		m.want(both(api.TInt), api.ErrType)
		return typ(api.TBool)
	case api.Add:
		if isUnknown(x) && isUnknown(y) {
			return unknown()
		}
		if both(api.TText) {
			return typ(api.TText)
		}
	}
	m.want(both(api.TInt), api.ErrType)
	return typ(api.TInt)
}

func (m *model) call(n api.Node, a around) api.Type {
	called := n.Kids[0]
	if called.Kind == api.NName && lex.Word(called.Text) {
		return m.wordCall(called.Text, n.Kids[1:], a)
	}
	before := m.broken
	m.broken = map[api.Errno]bool{}
	d, ok := m.declared(called, a)
	m.broken = before
	generic := ok && d.Kind == api.DFunc && len(d.Fields) > 0
	i := len(m.notes)
	t := d.Type
	if generic {
		m.notes = append(m.notes, api.Note{At: called.At})
	} else {
		t, _ = m.expr(called, a)
	}
	var args []api.Type
	wrong := false
	for _, kid := range n.Kids[1:] {
		arg, _ := m.expr(kid, a)
		args = append(args, arg)
		wrong = wrong || hasUnknown(arg)
	}
	if isUnknown(t) || hasUnknown(t) || wrong && generic {
		return unknown()
	}
	if generic {
		t = m.filled(d, args, a)
		m.notes[i].Type = t
	}
	if isUnknown(t) || !m.want(t.Kind == api.TFunc && len(t.Args) == len(args), api.ErrType) {
		return unknown()
	}
	for i, arg := range args {
		m.want(m.may(arg, t.Args[i], a), api.ErrType)
	}
	return append(slices.Clone(t.Res), api.Type{})[0]
}

func (m *model) filled(d api.Decl, args []api.Type, a around) api.Type {
	var names []string
	for _, f := range d.Fields {
		names = append(names, f.Name)
		if isUnknown(f.Type) {
			return unknown()
		}
	}
	ts, ok := kinds.Infer(names, d.Type.Args, args)
	if !m.want(ok, api.ErrType) {
		return unknown()
	}
	for i, t := range ts {
		all := within(t)
		vars := slices.ContainsFunc(all, func(t api.Type) bool { return t.Kind == api.TVar })
		m.want(len(all) <= 200 && (!vars || t.Kind == api.TVar), api.ErrType)
		switch must := d.Fields[i].Type; must.Kind {
		case api.TBool:
			m.want(kinds.Comparable(a.vars, t), api.ErrType)
		case api.TIface:
			m.want(kinds.Fits(m.us, a.vars, t, must), api.ErrType)
		}
	}
	return kinds.Put(d.Type, names, ts)
}

// within are all types that stand in one, itself too.
func within(t api.Type) []api.Type {
	all := []api.Type{t}
	for _, part := range slices.Concat(t.Args, t.Res) {
		all = append(all, within(part)...)
	}
	return all
}

func (m *model) wordCall(word string, args []api.Node, a around) api.Type {
	if word == "make" {
		t := m.typ(args[0], a)
		m.want(t.Kind == api.TSlice || isUnknown(t), api.ErrType)
		m.of(args[1], a, api.TInt)
		return t
	}
	want := map[string]string{"len": "s", "append": "sx", "panic": "i", "put": "i", "get": ""}[word]
	m.want(len(args) == len(want), api.ErrType)
	var ts []api.Type
	for i, arg := range args {
		switch sort := (want + strings.Repeat("?", len(args)))[i]; {
		case sort == 'i':
			ts = append(ts, m.of(arg, a, api.TInt))
		case sort == 's' && word == "len":
			ts = append(ts, m.of(arg, a, api.TSlice, api.TText))
		case sort == 's':
			ts = append(ts, m.of(arg, a, api.TSlice))
		default:
			t, _ := m.expr(arg, a)
			ts = append(ts, t)
		}
	}
	switch {
	case word == "append" && len(ts) == 2 && !isUnknown(ts[0]):
		m.want(m.may(ts[1], ts[0].Args[0], a), api.ErrType)
		return ts[0]
	case word == "append":
		return unknown()
	case word == "len" || word == "get":
		return typ(api.TInt)
	}
	return api.Type{}
}
