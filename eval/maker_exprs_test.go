package eval_test

import (
	"slices"
	"strconv"
	"strings"
)

// expr is an expression that fits a type.
func (m *maker) expr(of string, depth int) string {
	m.left--
	if names := m.usable(of); len(names) > 0 && !m.may(3) {
		return pick(m, names...)
	}
	if depth <= 0 || m.left < 0 {
		return m.plain(of)
	}
	if m.may(4) {
		return m.through(of, depth-1)
	}
	switch of {
	case "int":
		return m.number(depth - 1)
	case "bool":
		return m.truth(depth - 1)
	case "string":
		return m.text(depth - 1)
	case "*T":
		return pick(m, m.newT(depth-1), m.newT(depth-1), m.newT(depth-1), m.newT(depth-1), "(&T{p: "+m.expr("*T", depth-1)+"}).p", m.operand("*T", depth-1)+".p", "[]I{"+m.expr("*T", depth-1)+"}[0].(*T)")
	case "*U":
		return pick(m, "&U{a: "+m.expr("int", depth-1)+", b: "+m.expr("I", depth-1)+"}", "&U{e: "+m.expr("E", depth-1)+"}", "[]E{"+m.expr("J", depth-1)+"}[0].(*U)")
	case "I":
		if !m.pure && m.may(8) {
			return "f2(" + m.expr("*T", depth-1) + ")"
		}
		return pick(m, m.expr("*T", depth-1), m.expr("*U", depth-1), "via("+m.typed(pick(m, "*T", "*U", "I"), depth-1)+")", m.operand("E", depth-1)+".(I)", "(&T{i: "+m.expr("*U", depth-1)+"}).i", m.operand("func() I", depth-1)+"()", m.operand("[]I", depth-1)+"["+m.small()+"]")
	case "J":
		return pick(m, m.expr("*U", depth-1), m.expr("*U", depth-1), m.operand("I", depth-1)+".(J)")
	case "E":
		return pick(m, m.expr("*T", depth-1), m.expr("I", depth-1), m.expr("J", depth-1), m.operand("*U", depth-1)+".e")
	}
	return m.other(of, depth-1)
}

// through is an expression that goes through a function with type variables.
func (m *maker) through(of string, depth int) string {
	x := m.typed(of, depth)
	if strings.HasPrefix(of, "func") {
		return x
	}
	if m.inVars(of) && strings.HasPrefix(of, "[]") {
		return x
	}
	s := pick(m, "id("+x+")", "few("+x+")["+m.small()+"]", "put2("+"[]"+of+"{}, "+m.expr(of, depth)+")[1]", "many("+x+", "+m.typed(pick(m, "*T", "I"), depth)+", "+m.expr("I", depth)+")")
	if !m.inVars(of) && m.pkg == "main" && m.may(4) {
		return "a.G(" + x + ")"
	}
	if !m.inVars(of) && !m.pure && m.left > 10 && m.may(5) {
		return "g0(" + x + ", " + m.typed("*T", depth) + ", []" + of + "{" + m.expr(of, depth) + "})"
	}
	return s
}

// inVars tells whether a type is made of type variables.
func (m *maker) inVars(of string) bool {
	return slices.Contains(m.vars, strings.TrimPrefix(of, "[]"))
}

// plain is an expression without others, for the most part.
func (m *maker) plain(of string) string {
	switch of {
	case "int":
		return pick(m, strconv.Itoa(m.upTo(5)), "c", "d", strconv.Itoa(m.upTo(300)), "get()", pick(m, "9223372036854775807", "4096"))
	case "bool":
		return pick(m, "true", "false")
	case "string":
		return pick(m, `""`, `"ab"`, `"b"`, `"xyz"`, `"\n\"\\"`)
	case "*T":
		if m.pure {
			return "&T{n: 3}"
		}
		return m.orNil("&T{}", "&T{n: 1}", "&T{p: &T{}, i: &U{}, f: (&U{}).m}")
	case "*U", "J":
		return m.orNil("&U{}", "&U{a: 2}")
	case "I", "E":
		return m.orNil("&T{}", "&U{}")
	case "func(int) int":
		if m.pure {
			return m.orNil("func(x int) int { return x + 1; }")
		}
		return m.orNil("f0", "(&U{a: 1}).m")
	case "func() I":
		return pick(m, "func() I { return nil; }", "func() I { return &U{}; }")
	case "[]int":
		return m.orNil("[]int{1, 2}", "make([]int, 3)", "[]int{4}")
	case "[]func() int":
		return m.orNil("[]func() int{func() int { return 5; }}")
	}
	if strings.HasPrefix(of, "[]") {
		return m.orNil(of+"{}", "make("+of+", 2)", "make("+of+", 3)")
	}
	if names := m.usable(of); len(names) > 0 {
		return names[0]
	}
	return "make([]" + of + ", 1)[0]"
}

// bounds are those of a part, and seldom wrong ones.
func (m *maker) bounds() string {
	if m.may(6) {
		return "[" + pick(m, "", "0", "1") + ":" + pick(m, "", "1", "2", "4") + "]"
	}
	return "[" + pick(m, "", "0") + ":" + pick(m, "", "0") + "]"
}

// orNil is one of several texts, or now and then nil.
func (m *maker) orNil(of ...string) string {
	if m.may(12) {
		return "nil"
	}
	return pick(m, of...)
}

func (m *maker) newT(depth int) string {
	fields := []named{{"n", "int"}, {"s", "string"}, {"l", "[]int"}, {"p", "*T"}, {"i", "I"}, {"f", "func(int) int"}}
	var keys []string
	for _, f := range fields {
		if m.may(3) {
			keys = append(keys, f.name+": "+m.expr(f.of, depth))
		}
	}
	if m.may(2) {
		slices.Reverse(keys)
	}
	return "&T{" + strings.Join(keys, ", ") + "}"
}

func (m *maker) number(depth int) string {
	switch m.upTo(14) {
	case 0, 1, 2:
		return m.expr("int", depth) + pick(m, " + ", " - ", " * ") + m.expr("int", depth)
	case 3:
		return m.expr("int", depth) + pick(m, " / ", " % ") + "(" + m.expr("int", depth) + ")"
	case 4:
		return "-(" + m.expr("int", 0) + ")"
	case 5:
		return "len(" + m.typed(pick(m, "string", "[]int", "[]string"), depth) + ")"
	case 6:
		if !m.may(4) {
			return "append(" + m.typed("[]int", depth) + ", " + m.expr("int", depth) + ")[0]"
		}
		return m.operand("[]int", depth) + "[" + m.small() + "]"
	case 7:
		if !m.may(4) {
			return "(" + m.expr("string", depth) + " + \"yz\")[" + m.small() + "]"
		}
		return m.operand("string", depth) + "[" + m.small() + "]"
	case 8:
		return m.operand("*T", depth) + ".n"
	case 9, 10, 11:
		if !m.pure {
			return m.called(depth)
		}
	case 12:
		if m.pkg == "main" {
			return pick(m, "a.K", "a.V", "a.F("+m.expr("int", depth)+")", "(&a.S{N: "+m.expr("int", depth)+"}).Get(1)", "(*a.S).Get(&a.S{}, 2)")
		}
	case 13:
		return "func(n int) int { return n * 2; }(" + m.expr("int", depth) + ")"
	}
	return m.expr("int", depth)
}

// called is a call of what is made, which may name all variables of the package.
func (m *maker) called(depth int) string {
	switch m.upTo(4) {
	case 0:
		return pick(m, m.operand(pick(m, "*T", "*U", "I"), depth), "vI") + ".m(" + m.expr("int", depth) + ")"
	case 1:
		return m.operand("J", depth) + ".q()"
	case 2:
		return m.operand("func(int) int", depth) + "(" + m.expr("int", depth) + ")"
	}
	return pick(m, "(*T).m(&T{}, ", "(*U).m(nil, ") + m.expr("int", depth) + ")"
}

func (m *maker) truth(depth int) string {
	switch m.upTo(7) {
	case 0:
		return m.expr("int", depth) + pick(m, " < ", " <= ", " > ", " >= ", " == ", " != ") + m.expr("int", depth)
	case 1:
		return m.expr("string", depth) + pick(m, " == ", " != ") + m.expr("string", depth)
	case 2:
		return m.typed(pick(m, "*T", "I", "E", "J", "[]int", "func(int) int"), depth) + pick(m, " == ", " != ") + "nil"
	case 3:
		return m.typed(pick(m, "*T", "I", "E"), depth) + pick(m, " == ", " != ") + m.typed("I", depth)
	case 4:
		return "(" + m.expr("bool", depth) + pick(m, " && ", " || ") + m.expr("bool", depth) + ")"
	case 5:
		of := pick(m, "int", "string", "*T", "I", "bool")
		return "eq(" + m.typed(of, depth) + ", " + m.typed(of, depth) + ")"
	}
	return "!(" + m.expr("bool", depth) + ")"
}

func (m *maker) text(depth int) string {
	switch m.upTo(5) {
	case 0:
		return m.operand("string", depth) + m.bounds()
	case 1:
		if !m.pure {
			return "f1(" + m.expr("I", depth) + ", " + m.expr("string", depth) + ")"
		}
	case 2:
		return m.operand("*T", depth) + ".s"
	}
	return "(" + m.expr("string", depth) + " + " + m.expr("string", depth) + ")"
}

// other is an expression of a slice's, a func's or a type variable's type.
func (m *maker) other(of string, depth int) string {
	switch of {
	case "func(int) int":
		if m.pure {
			return m.literal([]named{{"y", "int"}}, "int")
		}
		if m.may(8) {
			return m.operand("*T", depth) + ".f"
		}
		return pick(m, m.literal([]named{{"y", "int"}}, "int"), m.literal([]named{{"z", "int"}}, "int"), m.operand(pick(m, "*T", "I", "*U"), depth)+".m")
	case "func() I":
		return m.literal(nil, "I")
	}
	element := strings.TrimPrefix(of, "[]")
	if element == of {
		return m.plain(of)
	}
	if of == "[]func() int" {
		return "append(" + m.typed(of, depth) + ", " + pick(m, m.literal(nil, "int"), m.operand("J", depth)+".q") + ")"
	}
	if of == "[]int" && !m.pure && m.may(4) {
		return "f3(" + m.expr(of, depth) + ", " + m.expr("func(int) int", depth) + ")"
	}
	switch m.upTo(4) {
	case 0:
		return of + "{" + m.expr(element, depth) + ", " + m.expr(element, depth) + "}"
	case 1:
		return m.operand(of, depth) + m.bounds()
	case 2:
		return "make(" + of + ", " + pick(m, "2", "3", m.expr("int", 0)) + ")"
	}
	return "append(" + m.typed(of, depth) + ", " + m.expr(element, depth) + ")"
}

// literal is a function's literal, in which all that is known about it can be named.
func (m *maker) literal(params []named, result string) string {
	known, inner, loops, was := len(m.known), m.inner, m.loops, m.result
	m.inner, m.loops, m.result = known, 0, result
	s := "func("
	for _, p := range params {
		s += p.name + " " + p.of
		m.known = append(m.known, p)
	}
	s += ") " + result + " { "
	if !m.pure && m.left > 0 {
		s += m.stats(m.upTo(3))
	}
	s += m.last() + "}"
	m.known, m.inner, m.loops, m.result = m.known[:known], inner, loops, was
	return s
}
