package inits_test

import (
	"slices"
	"strconv"
)

// maker makes packages that are right, the same ones in each run, and keeps what is named in them as it is written.
type maker struct {
	state   uint64
	left    int // how much more may be made
	made    []*symbol
	now     *symbol // the one whose expression or block is made
	known   []local // the local variables that are known
	inner   int     // where those of the innermost scope begin
	falls   bool    // each one names only what is below it: there is no ring then
	hidden  int     // how often a local variable hid what was to be named
	written string
}

// symbol is what a package declares and can be named in an expression: it is below those that may name it, where there are no rings.
type symbol struct {
	sort  int
	name  string
	of    string
	type_ string
	below int
	bare  bool // a var without an expression
	names map[*symbol]int
}

const (
	aVar = iota
	aFunc
	aMethod
)

type local struct{ name, type_ string }

// upTo is a number below n.
func (m *maker) upTo(n int) int {
	m.state = m.state*6364136223846793005 + 1442695040888963407
	return int(m.state >> 33 % uint64(n))
}

func (m *maker) may() bool { return m.upTo(2) == 0 }

func pick[T any](m *maker, of ...T) T { return of[m.upTo(len(of))] }

// types are those of what is made: of vars, local ones too, and of what functions answer.
func types() []string { return []string{"int", "int", "*T", "*U", "I", "func() int", "[]*T"} }

// plan declares what the package will have.
func (m *maker) plan() {
	for i := range 2 + m.upTo(6) {
		s := &symbol{sort: aVar, name: "v" + strconv.Itoa(i), type_: pick(m, types()...), bare: m.upTo(5) == 0}
		m.made = append(m.made, s)
	}
	for i := range 1 + m.upTo(4) {
		m.made = append(m.made, &symbol{sort: aFunc, name: "f" + strconv.Itoa(i), type_: pick(m, types()...)})
	}
	for _, of := range []string{"T", "U"} {
		m.made = append(m.made, &symbol{sort: aMethod, name: "M", of: of, type_: "int"})
		if m.may() {
			m.made = append(m.made, &symbol{sort: aMethod, name: pick(m, "f0", "v0", "m"), of: of, type_: "int"})
		}
	}
	for i := range m.made {
		k := i + m.upTo(len(m.made)-i)
		m.made[i], m.made[k] = m.made[k], m.made[i]
	}
	for i, k := range m.mixed(len(m.made)) {
		m.made[i].below, m.made[i].names = k, map[*symbol]int{}
	}
}

// mixed are the numbers below n, mixed.
func (m *maker) mixed(n int) []int {
	var all []int
	for i := range n {
		all = slices.Insert(all, m.upTo(i+1), i)
	}
	return all
}

// write writes the package: what it needs of types, imports and functions with type variables is always there.
func (m *maker) write() {
	m.plan()
	m.written = "package a;import q;type T struct{n int;t *T;v1 int;}type U struct{n int;}type I interface{M()int;}const c=2;" +
		"func id[A any](x A)A{return x;}func by[A I](x A)int{return x.M();}"
	for _, m.now = range m.made {
		m.written += m.declaration()
	}
}

// declaration is that of what is made now.
func (m *maker) declaration() string {
	m.known, m.inner = nil, 0
	switch m.now.sort {
	case aFunc:
		return "func " + m.now.name + m.routine("int", m.now.type_)
	case aMethod:
		receiver := pick(m, "t", m.some())
		m.known = []local{{receiver, "*" + m.now.of}}
		return "func(" + receiver + " *" + m.now.of + ")" + m.now.name + m.routine("", "int")
	}
	if m.now.bare {
		return "var " + m.now.name + " " + m.now.type_ + ";"
	}
	return "var " + m.now.name + " " + m.now.type_ + "=" + m.expr(m.now.type_, 3) + ";"
}

// some is the name of something that can be named, to be hidden by a local variable.
func (m *maker) some() string {
	s := pick(m, m.made...)
	if s.sort == aMethod {
		return pick(m, "q", "id", "by", "x")
	}
	return s.name
}

// routine is what stands behind a function's name: the variables that are known already are parameters too.
func (m *maker) routine(param, result string) string {
	s := "("
	if param != "" {
		name := pick(m, "x", m.some())
		m.known = append(m.known, local{name, param})
		s += name + " " + param
	}
	s += ")" + result + "{"
	for range m.upTo(4) {
		s += m.stat(3, false)
	}
	return s + "return " + m.expr(result, 2) + ";}"
}

// block is a block with statements and variables of its own.
func (m *maker) block(deep int, loop bool) string {
	known, inner := len(m.known), m.inner
	m.inner = known
	s := "{"
	for range m.upTo(3) {
		s += m.stat(deep-1, loop)
	}
	m.known, m.inner = m.known[:known], inner
	return s + "}"
}

// fresh is a name that the innermost scope has not; most hide something.
func (m *maker) fresh() string {
	for {
		name := pick(m, "x", "y", m.some(), m.some(), m.some())
		if !slices.ContainsFunc(m.known[m.inner:], func(l local) bool { return l.name == name }) {
			return name
		}
		if m.upTo(9) == 0 {
			return "z" + strconv.Itoa(len(m.known))
		}
	}
}

// declared is a statement that declares a variable, known behind it.
func (m *maker) declared() string {
	name, type_ := m.fresh(), pick(m, types()...)
	var s string
	switch m.upTo(3) {
	case 0:
		s = "var " + name + " " + type_ + ";"
	case 1:
		s = "var " + name + " " + type_ + "=" + m.expr(type_, 2) + ";"
	default:
		s = name + ":=" + m.expr(type_, 2) + ";"
	}
	m.known = append(m.known, local{name, type_})
	return s
}

func (m *maker) stat(deep int, loop bool) string {
	m.left--
	if deep <= 0 || m.left < 0 {
		return "put(1);"
	}
	switch m.upTo(9) {
	case 0, 1, 2:
		return m.declared()
	case 3:
		if name, ok := m.named("int", func(s *symbol) bool { return s.sort == aVar }); ok {
			return name + "=" + m.expr("int", 2) + ";"
		}
	case 4:
		// Behind no else stands a block that is a statement.
		return "if " + m.expr("int", 2) + "==" + m.expr("int", 1) + m.block(deep, loop) + pick(m, "", "else", "else if true") + m.block(deep, loop)
	case 5:
		if m.may() {
			return "for" + m.block(deep, true)
		}
		return "for " + m.expr("int", 2) + "<1" + m.block(deep, true)
	case 6:
		return m.block(deep, loop)
	case 7:
		if loop {
			return pick(m, "break;", "continue;")
		}
		return "(" + m.expr("*T", 1) + ").n=" + m.expr("int", 2) + ";"
	}
	return pick(m, "put", "panic") + "(" + m.expr("int", 2) + ");"
}

// localOf is the name of a local variable of a type that is not hidden.
func (m *maker) localOf(type_ string) (string, bool) {
	var all []string
	for i, l := range m.known {
		if l.type_ == type_ && !m.hides(m.known[i+1:], l.name) {
			all = append(all, l.name)
		}
	}
	if len(all) == 0 {
		return "", false
	}
	return pick(m, all...), true
}

func (m *maker) hides(known []local, name string) bool {
	return slices.ContainsFunc(known, func(l local) bool { return l.name == name })
}

// named names some symbol of a type: it is one that what is made names.
func (m *maker) named(type_ string, wanted func(*symbol) bool) (string, bool) {
	var all []*symbol
	for _, s := range m.made {
		if s.type_ != type_ || !wanted(s) || m.falls && s.below >= m.now.below {
			continue
		}
		if s.sort != aMethod && m.hides(m.known, s.name) {
			m.hidden++
			continue
		}
		all = append(all, s)
	}
	if len(all) == 0 {
		return "", false
	}
	s := pick(m, all...)
	m.now.names[s]++
	return s.name, true
}

// call names a function, or a var, of a type.
func (m *maker) call(type_ string, deep int) (string, bool) {
	if name, ok := m.named(type_, func(s *symbol) bool { return s.sort == aFunc }); ok {
		return name + "(" + m.expr("int", deep-1) + ")", true
	}
	return m.named(type_, func(s *symbol) bool { return s.sort == aVar })
}

// expr is an expression of just that type.
func (m *maker) expr(type_ string, deep int) string {
	m.left--
	if deep <= 0 || m.left < 0 {
		return m.leaf(type_)
	}
	switch m.upTo(10) {
	case 0:
		if s, ok := m.call(type_, deep); ok {
			return s
		}
	case 1:
		if !m.hides(m.known, "id") {
			return "id(" + m.expr(type_, deep-1) + ")"
		}
	case 2:
		known, inner, of := len(m.known), m.inner, pick(m, types()...)
		m.inner = known
		s := "func" + m.routine(of, type_)
		m.known, m.inner = m.known[:known], inner
		return s + "(" + m.expr(of, deep-1) + ")"
	case 3:
		return "[]" + type_ + "{" + m.expr(type_, deep-1) + "}[" + m.expr("int", deep-1) + "]"
	case 4:
		return m.leaf(type_)
	}
	return m.special(type_, deep-1)
}

// leaf is an expression that has no others in it.
func (m *maker) leaf(type_ string) string {
	if m.may() {
		if name, ok := m.localOf(type_); ok {
			return name
		}
	}
	if m.upTo(4) > 0 {
		if name, ok := m.named(type_, func(s *symbol) bool { return s.sort == aVar }); ok {
			return name
		}
	}
	switch type_ {
	case "*T":
		return "&T{}"
	case "*U":
		return "&U{}"
	case "I":
		return pick(m, "[]I{&T{}}[0]", "[]I{&U{}}[0]")
	case "func() int":
		return "func()int{return 1;}"
	case "[]*T":
		return "[]*T{}"
	}
	if !m.hides(m.known, "q") && m.upTo(3) == 0 {
		return pick(m, "q.V", "q.F()", "q.C", "q.P.N", "q.P.M()", "(*q.T).M(q.P)", "q.G(1)")
	}
	if !m.hides(m.known, "c") && m.upTo(3) == 0 {
		return "c"
	}
	return pick(m, "0", "1", "7", "get()")
}

// special is an expression that only its type has.
func (m *maker) special(type_ string, deep int) string {
	switch type_ {
	case "*T":
		return m.pointer(deep)
	case "*U":
		return m.other(deep)
	case "I":
		return m.face(deep)
	case "func() int":
		if s, ok := m.method(deep); ok {
			return s
		}
		return "(" + m.expr("I", deep) + ").M"
	case "[]*T":
		return m.list(deep)
	}
	return m.number(deep)
}

func (m *maker) pointer(deep int) string {
	switch m.upTo(4) {
	case 0:
		return "(" + m.expr("*T", deep) + ").t"
	case 1:
		return "(" + m.expr("I", deep) + ").(*T)"
	case 2:
		return "(" + m.expr("[]*T", deep) + ")[" + m.expr("int", deep) + "]"
	}
	return "&T{v1:" + m.expr("int", deep) + ",t:" + m.expr("*T", deep) + "}"
}

func (m *maker) other(deep int) string {
	if m.may() {
		return "(" + m.expr("I", deep) + ").(*U)"
	}
	return "&U{n:" + m.expr("int", deep) + "}"
}

func (m *maker) face(deep int) string {
	if m.upTo(3) == 0 {
		return "(" + m.expr("I", deep) + ").(I)"
	}
	return "[]I{" + m.expr(pick(m, "*T", "*U", "I"), deep) + "}[0]"
}

func (m *maker) list(deep int) string {
	switch m.upTo(4) {
	case 0:
		return "append(" + m.expr("[]*T", deep) + "," + m.expr("*T", deep) + ")"
	case 1:
		return "make([]*T," + m.expr("int", deep) + ")"
	case 2:
		return "(" + m.expr("[]*T", deep) + ")[" + m.expr("int", deep) + ":" + m.expr("int", deep) + "]"
	}
	return "[]*T{" + m.expr("*T", deep) + "," + m.expr("*T", deep) + "}"
}

// method is a method of a pointer, not called.
func (m *maker) method(deep int) (string, bool) {
	of := pick(m, "T", "U")
	name, ok := m.named("int", func(s *symbol) bool { return s.sort == aMethod && s.of == of })
	if !ok {
		return "", false
	}
	return "(" + m.expr("*"+of, deep) + ")." + name, true
}

// methodExpr is a method as a function, called.
func (m *maker) methodExpr(deep int) (string, bool) {
	of := pick(m, "T", "U")
	name, ok := m.named("int", func(s *symbol) bool { return s.sort == aMethod && s.of == of })
	if !ok {
		return "", false
	}
	return "(*" + of + ")." + name + "(" + m.expr("*"+of, deep) + ")", true
}

func (m *maker) number(deep int) string {
	switch m.upTo(12) {
	case 0:
		return "-(" + m.expr("int", deep) + ")"
	case 1:
		return "len(" + m.expr("[]*T", deep) + ")"
	case 2:
		return "(" + m.expr("*T", deep) + ")." + pick(m, "n", "v1")
	case 3, 4:
		if s, ok := m.method(deep); ok {
			return s + "()"
		}
	case 5, 6:
		if s, ok := m.methodExpr(deep); ok {
			return s
		}
	case 7:
		return "(" + m.expr("I", deep) + ").M()"
	case 8:
		return "(" + m.expr("func() int", deep) + ")()"
	case 9:
		if !m.hides(m.known, "by") {
			return "by(" + m.expr(pick(m, "*T", "*U", "I"), deep) + ")"
		}
	case 10:
		if name, ok := m.named("int", func(s *symbol) bool { return s.sort == aFunc }); ok {
			return "func(g func(int)int)int{return 1;}(" + name + ")"
		}
	}
	return "(" + m.expr("int", deep) + ")" + pick(m, "+", "-", "*", "/", "%") + "(" + m.expr("int", deep) + ")"
}
