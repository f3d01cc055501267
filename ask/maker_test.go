package ask_test

import (
	"slices"
	"strconv"
)

// maker makes packages that are right, the same ones in each run.
type maker struct {
	state uint64
	left  int      // how much more may be made
	names []string // of the local ints that are known
	funcs []string // of what is known as a func(int) int
	inner int      // where the innermost scope's names begin
	count int      // of loops
	level int      // of the function: those of lower levels may be called
}

func (m *maker) upTo(n int) int {
	m.state = m.state*6364136223846793005 + 1442695040888963407
	return int(m.state >> 33 % uint64(n))
}

func (m *maker) may(n int) bool { return m.upTo(n) == 0 }

func pick[T any](m *maker, of ...T) T { return of[m.upTo(len(of))] }

// pack is what a package declares that asks q and r.
func (m *maker) pack() string {
	s := "import q; import r; type I interface { m(int) int; } type T struct { n int; f func(int) int; } func (t *T) m(x int) int { t.n = t.n + x; return t.f(t.n); } func id[A any](x A) A { return x; } func do(f func(int) int, x int) int { return f(x); } func one(f func()) int { f(); return 1; } func rec(n int, f func(int) int) int { if n <= 0 { return f(n); } return rec(n - 1, f) + 1; } func step(x int) int { return x * 2 + 1; } "
	for i, name := range []string{"u", "v", "w"} {
		m.left, m.level = 12, 0
		s += "var " + name + " int"
		if !m.may(3) {
			// Nothing else names vars there, so that none needs itself.
			s += " = " + m.number(2) + pick(m, "", []string{" + v + w", " + w", ""}[i])
		}
		s += "; "
	}
	for i := range 3 {
		m.level = 1 + i
		s += "func f" + strconv.Itoa(i) + "(x int) int " + m.function("x") + " "
	}
	m.level = 4
	return s + "func Two(a int, b int) int " + m.function("a", "b") + " func One(x int) int " + m.function("x") + " func None() int " + m.function() + " func Do(x int) { x = One(x); v = x; } func Bare() { w = w + 1; } "
}

// function is the block of a function with a result.
func (m *maker) function(params ...string) string {
	m.left, m.names, m.funcs, m.inner = 40, slices.Clone(params), nil, 0
	s := "{ " + m.stats(3) + "return " + m.number(2) + "; }"
	m.names, m.funcs = nil, nil
	return s
}

func (m *maker) stats(n int) string {
	s := ""
	for range n {
		s += m.stat()
	}
	return s
}

func (m *maker) block(n int) string {
	names, funcs, inner := len(m.names), len(m.funcs), m.inner
	m.inner = names
	s := "{ " + m.stats(n) + "}"
	m.names, m.funcs, m.inner = m.names[:names], m.funcs[:funcs], inner
	return s
}

// declare makes a name that is not there yet, known with a text behind it.
func (m *maker) declare(kind string, behind string) string {
	m.count++
	name := kind + strconv.Itoa(m.count)
	if kind == "g" {
		m.funcs = append(m.funcs, name)
	} else {
		m.names = append(m.names, name)
	}
	return name + " := " + behind + "; "
}

func (m *maker) stat() string {
	m.left--
	if m.left < -40 {
		return ""
	}
	switch m.upTo(12) {
	case 0, 1:
		return m.declare("y", m.number(2))
	case 2:
		return m.declare("g", m.fn(2))
	case 3:
		return pick(m, "u", "v", "w") + " = " + m.number(2) + "; "
	case 4:
		if len(m.names) > 0 {
			return pick(m, m.names...) + " = " + m.number(2) + "; "
		}
	case 5:
		return "q.N(); "
	case 6:
		return "q.P(" + m.number(2) + ", " + m.number(1) + "); "
	case 7:
		return "if " + m.truth() + " " + m.block(2) + pick(m, " ", " else "+m.block(1)+" ")
	case 8:
		m.count++
		i := "i" + strconv.Itoa(m.count)
		return i + " := 0; for " + i + " < " + strconv.Itoa(1+m.upTo(4)) + " { " + i + " = " + i + " + 1; " + m.block(2) + pick(m, " ", " if "+m.truth()+" { break; } ") + "} "
	case 9:
		if m.may(8) {
			return "if " + m.truth() + " { panic(" + m.number(1) + "); } "
		}
		return "if " + m.truth() + " { return " + m.number(1) + "; } "
	}
	return pick(m, "q.G("+m.number(1)+"); ", "one(q.N); ", "w = w + 1; ")
}

func (m *maker) truth() string {
	return m.number(1) + pick(m, " < ", " == ", " != ", " >= ") + m.number(1)
}

// number is an expression of an int.
func (m *maker) number(depth int) string {
	m.left--
	if depth <= 0 || m.left < 0 {
		return m.plain()
	}
	switch m.upTo(12) {
	case 0, 1:
		return "(" + m.number(depth-1) + pick(m, " + ", " - ", " * ") + m.number(depth-1) + ")"
	case 2:
		return m.number(depth-1) + pick(m, " / ", " % ") + pick(m, "3", "7", "(1 + "+m.number(0)+")")
	case 3, 4:
		return "q.G(" + m.number(depth-1) + ")"
	case 5:
		return "r.G(" + m.number(depth-1) + ", " + m.number(depth-1) + ")"
	case 6:
		return pick(m, "q.H()", "id(q.H)()", "id("+m.number(depth-1)+")", "len(append(make([]int, 2), "+m.number(depth-1)+"))")
	case 7:
		return m.fn(depth) + "(" + m.number(depth-1) + ")"
	case 8:
		return pick(m, "do("+m.fn(depth-1)+", "+m.number(depth-1)+")", "rec("+pick(m, "0", "2", "5")+", "+m.fn(depth-1)+")")
	case 9:
		return "(&T{n: " + m.number(depth-1) + ", f: " + m.fn(depth-1) + "}).m(" + m.number(depth-1) + ")"
	case 10:
		return "[]I{&T{f: " + m.fn(depth-1) + "}}[0].m(" + m.number(depth-1) + ")"
	}
	return "[]func(int) int{" + m.fn(depth-1) + ", " + m.fn(depth-1) + "}[" + pick(m, "0", "1", "1", pick(m, "0", "2")) + "](" + m.number(depth-1) + ")"
}

// plain is a number without questions.
func (m *maker) plain() string {
	if len(m.names) > 0 && !m.may(3) {
		return pick(m, m.names...)
	}
	if m.level > 0 && m.may(2) {
		return pick(m, "u", "v", "w")
	}
	return pick(m, "0", "1", "-2", "q.C", "r.C", strconv.Itoa(m.upTo(1000)))
}

// fn is an expression of a func(int) int.
func (m *maker) fn(depth int) string {
	if len(m.funcs) > 0 && m.may(2) {
		return pick(m, m.funcs...)
	}
	if m.level > 1 && m.may(3) {
		return "f" + strconv.Itoa(m.upTo(m.level-1))
	}
	if depth > 0 && m.may(3) {
		return m.literal(depth)
	}
	return pick(m, "q.G", "q.G", "id(q.G)", "step", "(&T{f: q.G}).m")
}

// literal is a function's literal, in which all that is known about it can be named.
func (m *maker) literal(depth int) string {
	names, funcs, inner := len(m.names), len(m.funcs), m.inner
	m.count++
	param := "z" + strconv.Itoa(m.count)
	m.names, m.inner = append(m.names, param), names
	s := "func(" + param + " int) int { "
	if m.level > 0 && m.left > 0 {
		s += m.stats(m.upTo(3))
	}
	s += "return " + m.number(depth-1) + "; }"
	m.names, m.funcs, m.inner = m.names[:names], m.funcs[:funcs], inner
	return s
}
