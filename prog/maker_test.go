package prog_test

import (
	"slices"
	"strconv"
	"strings"

	"mortise/api"
)

// maker makes programs, the same ones in each run, some of them with faults, and keeps how they are made.
type maker struct {
	state uint64
	packs []*made
}

// made is a package as it is made.
type made struct {
	name     string
	imports  []string
	text     string
	names    []string // of functions and methods, as the text has them
	literals []int
	decls    []string
	fault    api.Errno // of layers 10 and 11
	broken   api.Errno // of layer 5
	begins   bool      // it has a function main as a program wants it
}

// upTo is a number below n.
func (m *maker) upTo(n int) int {
	m.state = m.state*6364136223846793005 + 1442695040888963407
	return int(m.state >> 33 % uint64(n))
}

func pick[T any](m *maker, of ...T) T { return of[m.upTo(len(of))] }

// mixed are the numbers below n, mixed.
func (m *maker) mixed(n int) []int {
	var all []int
	for i := range n {
		all = slices.Insert(all, m.upTo(i+1), i)
	}
	return all
}

// write puts something to a package's text; @ stands ahead of a literal.
func (p *made) write(s string) {
	text, places := marked(s)
	for _, at := range places {
		p.literals = append(p.literals, len(p.text)+at)
	}
	p.text += text
}

// writeDecl writes what declares a name; what has code is told among the names.
func (p *made) writeDecl(name, s string) {
	p.decls = append(p.decls, name)
	if strings.HasPrefix(s, "func") {
		p.names = append(p.names, name)
	}
	p.write(s)
}

// make makes a program. Imports go to packages of less rank, but where a fault is put in.
func (m *maker) make() {
	names := []string{"a", "b", "ab", "B", "_", "z9", "main2", "Z", "zz", "a0", "M"}
	count := 1 + m.upTo(api.MaxPackages)
	if m.upTo(30) == 0 {
		count = api.MaxPackages + 1
	}
	for k, i := range m.mixed(len(names))[:count] {
		name := names[i]
		if k == 0 && m.upTo(15) > 0 {
			name = "main"
		}
		if k > 0 && m.upTo(150) == 0 {
			name = m.packs[m.upTo(k)].name
		}
		m.packs = append(m.packs, &made{name: name})
	}
	rank := m.mixed(count)
	share := 1 + m.upTo(4)
	for i, p := range m.packs {
		for _, k := range m.mixed(count) {
			if rank[k] < rank[i] && m.upTo(share) == 0 || m.upTo(2000) == 0 {
				p.imports = append(p.imports, m.packs[k].name)
			}
		}
	}
	if m.upTo(40) == 0 {
		p := pick(m, m.packs...)
		p.imports = append(p.imports, pick(m, "none", "A", "nil_"))
	}
	m.packs = mixedOf(m, m.packs)
	for _, p := range m.packs {
		m.pack(p)
	}
}

// mixedOf is a list, mixed.
func mixedOf[T any](m *maker, list []T) []T {
	var all []T
	for _, i := range m.mixed(len(list)) {
		all = append(all, list[i])
	}
	return all
}

// decl is how something is declared: its name among the code, and its text.
type decl struct{ name, text string }

// pack makes a package's text: what the others may name, something of each one that it imports, and some more.
func (m *maker) pack(p *made) {
	p.write("package " + p.name + ";")
	for _, name := range p.imports {
		p.write("import " + name + ";")
	}
	if len(p.imports) > 0 && m.upTo(80) == 0 {
		// Layer 9 does not mind a name that stands twice; layer 10 does.
		p.write("import " + p.imports[0] + ";")
		p.fault = api.ErrTwice
	}
	all := []decl{
		{"T", "type T struct { N int; F func(); }"}, {"I", "type I interface { M(int) int; }"}, {"C", "const C = " + strconv.Itoa(m.upTo(100)) + ";"},
		{"T.M", "func (t *T) M(x int) int { return t.N + x; }"}, {"New", "func New() *T { return &T{N: C, F: @func() { put(C); }}; }"}, {"V", "var V *T = New();"}, {"G", "func G[A I](x A) A { put(x.M(1)); return x; }"},
	}
	for _, name := range p.imports {
		all = append(all, decl{"Of" + name, "func Of" + name + "() *" + name + ".T { " + name + ".V.N = " + name + ".C; return " + name + ".G(" + name + ".New()); }"})
		all = append(all, m.through(name)...)
	}
	for i := range m.upTo(6) {
		all = append(all, m.further(strconv.Itoa(i)))
	}
	if p.name == "main" {
		all = append(all, m.main(p))
	}
	if p.fault == api.OK && m.upTo(12) == 0 {
		all = append(all, m.fault(p)...)
	}
	for _, d := range mixedOf(m, all) {
		p.writeDecl(d.name, d.text)
	}
	m.spoil(p)
}

// through is what reaches a package by another one, that imports it.
func (m *maker) through(name string) []decl {
	for _, q := range m.packs {
		if q.name == name && len(q.imports) > 0 {
			of := pick(m, q.imports...)
			return []decl{{"by" + name, "func by" + name + "() int { x := " + name + ".Of" + of + "(); x.N = 1; f := x.M; return f(2) + x.M(x.N); }"}}
		}
	}
	return nil
}

// further is something more that a package declares.
func (m *maker) further(i string) decl {
	return pick(m,
		decl{"c" + i, "const c" + i + " = -1;"},
		decl{"v" + i, "var v" + i + " int;"},
		decl{"v" + i, "var v" + i + " func() = @func() { };"},
		decl{"v" + i, "var v" + i + " func() func() = @func() func() { return @func() { }; };"},
		decl{"v" + i, "var v" + i + " int = C + (@func(x int) int { return x; })(1);"},
		decl{"T" + i, "type T" + i + " struct { next *T; }"},
		decl{"I" + i, "type I" + i + " interface { m() func(); }"},
		decl{"T.m" + i, "func (t *T) m" + i + "() { t.F = @func() { @func() { }(); }; }"},
		decl{"T.m" + i, "func (t *T) m" + i + "(func_ func(int)) { }"},
		decl{"f" + i, "func f" + i + "(x int) int { g := @func(y int) int { return @func() int { return y; }(); }; return g(x); }"},
		decl{"f" + i, "func f" + i + "[A any, B comparable](x A, y B) []B { return []B{y}; }"},
		decl{"main_" + i, "func main_" + i + "() { if true { @func() { }(); } else { for { break; } } }"},
	)
}

// main is a function main, or what is none.
func (m *maker) main(p *made) decl {
	if m.upTo(12) == 0 {
		return pick(m, decl{"Main", "func Main() { }"}, decl{"main", "func main() int { return 1; }"}, decl{"main", "func main(x int) { }"}, decl{"main", "func main[A any](x A) { }"}, decl{"T.main", "func (t *T) main() { }"}, decl{"main", "var main func() = @func() { };"}, decl{"main", "const main = 1;"})
	}
	p.begins = true
	return decl{"main", "func main() { put(C); @func() { V.F(); }(); }"}
}

// fault is something that layer 10 or 11 refuses.
func (m *maker) fault(p *made) []decl {
	cycle := []decl{{"bad1", "var bad1 int = bad2();"}, {"bad2", "func bad2() int { return bad1; }"}}
	wrong := decl{"bad3", "var bad3 int = true;"}
	switch m.upTo(6) {
	case 0:
		p.fault = api.ErrType
		return append(cycle, wrong)
	case 1, 2:
		p.fault = api.ErrCycle
		return cycle
	case 3:
		p.fault = api.ErrName
		return []decl{{"bad4", "func bad4() { none(); }"}}
	case 4:
		p.fault = api.ErrTwice
		return []decl{{"bad5", "type bad5 interface { }"}, {"bad5", "var bad5 int;"}}
	}
	p.fault = api.ErrType
	return []decl{wrong}
}

// spoil turns few texts into what layer 5 refuses.
func (m *maker) spoil(p *made) {
	switch m.upTo(200) {
	case 0:
		p.broken = api.ErrText
		p.text += pick(m, "x", "07", "\"", "}", "package a;", "import a;", "\x00")
	case 1:
		p.broken = api.ErrLong
		p.text += strings.Repeat(" ", api.MaxText)
	case 2:
		p.broken = api.ErrDeep
		p.text += "var deep int = " + strings.Repeat("(", api.MaxDeep+1)
	}
}

// texts are those that were made.
func (m *maker) texts() []string {
	var texts []string
	for _, p := range m.packs {
		texts = append(texts, p.text)
	}
	return texts
}

// find is the number of the first package of a name; else -1.
func (m *maker) find(name string) int {
	return slices.IndexFunc(m.packs, func(p *made) bool { return p.name == name })
}

// order are the packages' numbers, in layer 9's order; or a number, and what is wrong of it.
func (m *maker) order() ([]int, int, api.Errno) {
	if len(m.packs) > api.MaxPackages {
		return nil, 0, api.ErrLimit
	}
	for i, p := range m.packs {
		if m.find(p.name) < i {
			return nil, i, api.ErrTwice
		}
	}
	for i, p := range m.packs {
		for _, name := range p.imports {
			if m.find(name) < 0 {
				return nil, i, api.ErrName
			}
		}
	}
	var order []int
	there := func(name string) bool { return slices.Contains(order, m.find(name)) }
	for range m.packs {
		next := -1
		for i, p := range m.packs {
			waits := slices.ContainsFunc(p.imports, func(name string) bool { return !there(name) })
			if !there(p.name) && !waits && (next < 0 || p.name < m.packs[next].name) {
				next = i
			}
		}
		if next < 0 {
			return nil, slices.IndexFunc(m.packs, func(p *made) bool { return !there(p.name) }), api.ErrCycle
		}
		order = append(order, next)
	}
	return order, 0, api.OK
}

// want is what Load is to tell, but for units.
func (m *maker) want() ([]int, int, api.Errno) {
	for i, p := range m.packs {
		if p.broken != api.OK {
			return nil, i, p.broken
		}
	}
	order, at, e := m.order()
	if e != api.OK {
		return nil, at, e
	}
	for _, i := range order {
		if m.packs[i].fault != api.OK {
			return nil, i, m.packs[i].fault
		}
	}
	if !slices.ContainsFunc(m.packs, func(p *made) bool { return p.begins }) {
		return nil, len(m.packs), api.ErrName
	}
	return order, 0, api.OK
}

// named are the names of a program's code.
func (m *maker) named(order []int) []string {
	var names []string
	for _, i := range order {
		p := m.packs[i]
		names = append(names, p.name+"#")
		for _, name := range p.names {
			names = append(names, p.name+"."+name)
		}
		for _, at := range p.literals {
			names = append(names, p.name+"@"+strconv.Itoa(at))
		}
	}
	return names
}
