package eval_test

import (
	"slices"
	"strconv"
	"strings"
)

// maker makes programs that are right, the same ones in each run. Types are told by their texts.
type maker struct {
	state  uint64
	left   int // how much more may be made
	known  []named
	inner  int // where the innermost scope's variables begin
	loops  int
	result string
	vars   []string // type variables
	pkg    string
	pure   bool // nothing may be named that may name a package's variable
}

type named struct{ name, of string }

func (m *maker) upTo(n int) int {
	m.state = m.state*6364136223846793005 + 1442695040888963407
	return int(m.state >> 33 % uint64(n))
}

func (m *maker) may(n int) bool { return m.upTo(n) == 0 }

func pick[T any](m *maker, of ...T) T { return of[m.upTo(len(of))] }

// fixed is what both packages declare beside functions that are made.
const fixed = `type T struct { n int; s string; l []int; p *T; i I; f func(int) int; }
type U struct { a int; b I; e E; }
type I interface { m(int) int; }
type J interface { q() int; }
type E interface { }
const c = 7; const d = -3;
func id[A any](x A) A { return x; }
func eq[A comparable](x A, y A) bool { return x == y; }
func put2[A any](l []A, x A) []A { var y A; l = append(l, y); return append(l, x); }
func via[A I](x A) I { return x; }
func few[A any](x A) []A { l := make([]A, 2); l[1] = x; return l; }
func many[A any, B I](x A, y B, z I) A { var w []I; w = append(w, y); w = append(w, z); f := func(v B) I { return v; }; if f(y) == z { put(60); } return id(x); }
`

// types are the texts of types that variables have.
func (m *maker) types() []string {
	types := []string{"int", "int", "bool", "string", "*T", "*U", "I", "J", "E", "[]int", "[]I", "[]*T", "[]string", "func(int) int", "func() I", "[]func() int"}
	for _, v := range m.vars {
		types = append(types, v, v, "[]"+v)
	}
	return types
}

// program is the texts of two packages, the second of which begins.
func (m *maker) program() []string {
	m.pkg = "a"
	a := "package a; " + m.pack("") + "var V int = f0(" + m.expr("int", 2) + "); func F(x int) int { return x + V; } type S struct { N int; M *S; } func (s *S) Get(n int) int { return s.N + n; } func G[A any](x A) A { return x; } const K = 77; "
	m.pkg = "main"
	s := "package main; import a; " + m.pack("") + "func main() " + m.function(nil, nil, "", 8)
	return []string{s, a}
}

// pack is what a package declares.
func (m *maker) pack(s string) string {
	s += fixed
	for _, v := range []named{{"vi", "int"}, {"vs", "string"}, {"vp", "*T"}, {"vI", "I"}, {"vl", "[]int"}, {"vf", "func(int) int"}} {
		m.left = 30
		s += "var " + v.name + " " + v.of
		if !m.may(4) {
			m.pure = true
			s += " = " + m.expr(v.of, 2)
			m.pure = false
		}
		s += "; "
	}
	for _, f := range functions() {
		m.left = 40
		s += "func " + f.head + m.function(f.vars, f.params, f.result, 3) + " "
	}
	return s
}

// routine is a function of which the block is made.
type routine struct {
	head   string
	vars   []string
	params []named
	result string
}

func functions() []routine {
	return []routine{
		{"(t *T) m(x int) int", nil, []named{{"t", "*T"}, {"x", "int"}}, "int"},
		{"(t *T) k(i I)", nil, []named{{"t", "*T"}, {"i", "I"}}, ""},
		{"(u *U) m(x int) int", nil, []named{{"u", "*U"}, {"x", "int"}}, "int"},
		{"(u *U) q() int", nil, []named{{"u", "*U"}}, "int"},
		{"f0(x int) int", nil, []named{{"x", "int"}}, "int"},
		{"f1(x I, s string) string", nil, []named{{"x", "I"}, {"s", "string"}}, "string"},
		{"f2(p *T) I", nil, []named{{"p", "*T"}}, "I"},
		{"f3(l []int, g func(int) int) []int", nil, []named{{"l", "[]int"}, {"g", "func(int) int"}}, "[]int"},
		{"g0[A any, B I](x A, y B, l []A) A", []string{"A", "B"}, []named{{"x", "A"}, {"y", "B"}, {"l", "[]A"}}, "A"},
	}
}

// function is a function's block.
func (m *maker) function(vars []string, params []named, result string, stats int) string {
	m.vars, m.known, m.inner, m.loops, m.result = vars, slices.Clone(params), 0, 0, result
	s := "{ " + m.stats(stats) + m.last() + "}"
	m.vars, m.known, m.inner = nil, nil, 0
	return s
}

// last is the last statement of a function's block.
func (m *maker) last() string {
	if m.result == "" {
		return ""
	}
	return "return " + m.expr(m.result, 2) + "; "
}

func (m *maker) stats(n int) string {
	s := ""
	for range n {
		s += m.stat()
	}
	return s
}

func (m *maker) block(n int) string {
	known, inner := len(m.known), m.inner
	m.inner = known
	s := "{ " + m.stats(n) + "}"
	m.known, m.inner = m.known[:known], inner
	return s
}

// fresh is a name that the innermost scope has not yet: those of others it may hide.
func (m *maker) fresh() string {
	for {
		name := string(rune('a'+m.upTo(8))) + pick(m, "", "9")
		if name != "a" && name != "c" && name != "d" && !slices.ContainsFunc(m.known[m.inner:], func(v named) bool { return v.name == name }) {
			return name
		}
	}
}

// usable are the variables of a type that can be named.
func (m *maker) usable(of string) []string {
	var names []string
	for i, v := range m.known {
		hidden := slices.ContainsFunc(m.known[i+1:], func(w named) bool { return w.name == v.name })
		if v.of == of && !hidden {
			names = append(names, v.name)
		}
	}
	if len(names) == 0 {
		for _, v := range []named{{"vi", "int"}, {"vs", "string"}, {"vp", "*T"}, {"vI", "I"}, {"vl", "[]int"}, {"vf", "func(int) int"}} {
			if v.of == of && !m.pure {
				names = append(names, v.name)
			}
		}
	}
	return names
}

func (m *maker) declare(name, of string) {
	m.known = append(m.known, named{name, of})
}

func (m *maker) stat() string {
	m.left--
	if m.left < -60 {
		return ""
	}
	switch m.upTo(14) {
	case 0:
		of, name := pick(m, m.types()...), m.fresh()
		m.declare(name, of)
		return "var " + name + " " + of + "; "
	case 1, 2, 3:
		of := pick(m, m.types()...)
		s := " := " + m.typed(of, 2) + "; "
		name := m.fresh()
		m.declare(name, of)
		return name + s
	case 4, 5, 6:
		of := pick(m, "int", "int", "string", "*T", "I", "[]int", "func(int) int")
		return m.stored(of) + " = " + m.expr(of, 2) + "; "
	case 7:
		return "put(" + m.expr("int", 2) + "); "
	case 8:
		return "if " + m.expr("bool", 2) + " " + m.block(2) + pick(m, " ", " else "+m.block(1), " else if "+m.expr("bool", 1)+" "+m.block(1)) + " "
	case 9:
		return m.loop()
	case 10:
		if m.loops > 0 && m.may(2) {
			return "if " + m.expr("bool", 1) + " { " + pick(m, "break", "continue") + "; } "
		}
		if m.result == "" && m.may(8) {
			return "return; "
		}
		return m.block(2) + " "
	case 11:
		return pick(m, "vi = f0("+m.expr("int", 1)+"); ", "(&T{n: "+m.expr("int", 1)+"}).k("+m.expr("I", 1)+"); ", "put(len("+m.typed(pick(m, "[]int", "[]I", "string"), 1)+")); ")
	case 12:
		if m.result != "" && m.may(3) {
			return "if " + m.expr("bool", 1) + " { return " + m.expr(m.result, 1) + "; } "
		}
		if m.may(20) {
			return "panic(" + m.expr("int", 1) + "); "
		}
	}
	return pick(m, "put(vi); ", "if vI != nil { put(vI.m(1)); } ", "vi = vi + 1; ")
}

// loop is a for that ends, for the most part.
func (m *maker) loop() string {
	if m.may(4) {
		m.loops++
		s := "for " + m.expr("bool", 1) + " " + m.block(2) + " "
		m.loops--
		return s
	}
	name := m.fresh()
	m.declare(name, "int")
	m.loops++
	body := strings.TrimPrefix(m.block(2), "{ ")
	m.loops--
	return name + " := 0; for " + name + " < " + strconv.Itoa(1+m.upTo(4)) + " { " + name + " = " + name + " + 1; " + body + " "
}

// stored is something in which a value of a type can be stored.
func (m *maker) stored(of string) string {
	if names := m.usable(of); len(names) > 0 && !m.may(3) {
		return pick(m, names...)
	}
	field := map[string]string{"int": "n", "string": "s", "*T": "p", "I": "i", "[]int": "l", "func(int) int": "f"}[of]
	switch {
	case of == "int" && m.may(2):
		return m.operand("[]int", 1) + "[" + m.small() + "]"
	case of == "I" && m.may(3):
		return m.operand("[]I", 1) + "[" + m.small() + "]"
	case of == "int" && m.may(6) && m.pkg == "main":
		return pick(m, "a.V", "(&a.S{}).N")
	}
	return m.operand("*T", 1) + "." + field
}

// small is a number that is a place of most lists.
func (m *maker) small() string { return strconv.Itoa(pick(m, 0, 0, 0, 0, 1, 1, 2)) }

// operand is an expression behind which something may stand.
func (m *maker) operand(of string, depth int) string {
	s := m.typed(of, depth)
	if s[0] == '&' || s[0] == '-' {
		return "(" + s + ")"
	}
	return s
}

// typed is an expression that has a type, and does not only fit it.
func (m *maker) typed(of string, depth int) string {
	if s := m.expr(of, depth); s != "nil" && of != "I" && of != "J" && of != "E" {
		return s
	}
	if of == "I" || of == "J" || of == "E" {
		return "[]" + of + "{" + m.expr(of, depth) + "}[0]"
	}
	if strings.HasPrefix(of, "[]") {
		return of + "{}"
	}
	return map[string]string{"*T": "&T{}", "*U": "&U{}", "func(int) int": "func(x int) int { return x; }"}[of]
}
