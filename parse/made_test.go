package parse_test

import (
	"reflect"
	"slices"
	"strconv"
	"strings"
	"testing"

	"mortise/api"
	"mortise/lex"
	"mortise/parse"
)

// maker writes texts by the grammar, and tells of each part as it writes it the tree that it has by the chapter's table.
type maker struct {
	text  []byte
	state uint64
	// How many parts more may be made within others.
	left int
}

// upTo is a number below n, the same ones in each run.
func (m *maker) upTo(n int) int {
	m.state = m.state*6364136223846793005 + 1442695040888963407
	return int(m.state >> 33 % uint64(n))
}

// more tells whether one part more, of several, is made.
func (m *maker) more(n int) bool {
	if m.left <= 0 {
		return false
	}
	m.left--
	return m.upTo(n) > 0
}

// put writes a token: its place.
func (m *maker) put(token string) int {
	gap := []string{"", "", " ", "\n", "\t", "// x\n"}[m.upTo(6)]
	// Neither a token nor a remark may become part of the token ahead.
	if len(m.text) > 0 {
		last := string(m.text[len(m.text)-1:])
		whole, _, e := lex.Lex(last + gap + token)
		if e != api.OK || len(whole) != 3 {
			gap = " " + gap
		}
	}
	m.text = append(append(m.text, gap...), token...)
	return len(m.text) - len(token)
}

func (m *maker) puts(tokens ...string) {
	for _, token := range tokens {
		m.put(token)
	}
}

func (m *maker) name() (string, int) {
	name := []string{"a", "b", "x1", "Name", "_", "ints", "T"}[m.upTo(7)]
	return name, m.put(name)
}

// list makes parts with commas between.
func (m *maker) list(part func() api.Node) []api.Node {
	var parts []api.Node
	for m.more(3) {
		if parts != nil {
			m.put(",")
		}
		parts = append(parts, part())
	}
	return parts
}

func (m *maker) typeName() api.Node {
	name, at := m.name()
	if m.upTo(3) > 0 {
		return api.Node{Kind: api.NTypeName, Text: name, At: at}
	}
	m.put(".")
	behind, _ := m.name()
	return api.Node{Kind: api.NTypeName, Pkg: name, Text: behind, At: at}
}

func (m *maker) typ() api.Node {
	switch m.upTo(3 + 5*min(1, max(0, m.left))) {
	case 0:
		word := []string{"int", "bool", "string"}[m.upTo(3)]
		return api.Node{Kind: api.NTypeName, Text: word, At: m.put(word)}
	case 1, 2:
		return m.typeName()
	case 3, 4:
		at := m.put("*")
		return api.Node{Kind: api.NPtr, At: at, Kids: []api.Node{m.typeName()}}
	case 5, 6:
		m.left--
		at := m.put("[")
		m.put("]")
		return api.Node{Kind: api.NSliceOf, At: at, Kids: []api.Node{m.typ()}}
	}
	m.left--
	n := api.Node{Kind: api.NFuncOf, At: m.put("func")}
	m.head(&n, m.typ)
	return n
}

// head makes what stands in brackets, and a result's type or none.
func (m *maker) head(n *api.Node, part func() api.Node) {
	m.put("(")
	n.Kids = append(n.Kids, m.list(part)...)
	m.put(")")
	if m.upTo(2) == 0 {
		n.N = 1
		n.Kids = append(n.Kids, m.typ())
	}
}

func (m *maker) named(kind int) api.Node {
	name, at := m.name()
	return api.Node{Kind: kind, Text: name, At: at, Kids: []api.Node{m.typ()}}
}

func (m *maker) param() api.Node { return m.named(api.NParam) }

func (m *maker) anyExpr() api.Node { return m.expr(1) }

// expr makes an expression that binds at least so strongly: 6 as what a sign stands ahead of, 7 as what others stand behind.
func (m *maker) expr(least int) api.Node {
	if m.left <= 0 {
		return m.short()
	}
	m.left--
	choice := m.upTo(22)
	switch {
	case choice == 0 || choice < 7 && least > 5 || choice < 10 && least > 6:
		m.put("(")
		n := m.expr(1)
		m.put(")")
		return n
	case choice < 7:
		of := signs()[m.upTo(13)]
		if of.strength < least {
			m.put("(")
			defer m.put(")")
		}
		left := m.expr(of.strength)
		at := m.put(of.sign)
		return api.Node{Kind: api.NBinary, Op: of.op, At: at, Kids: []api.Node{left, m.expr(of.strength + 1)}}
	case choice == 7:
		at := m.put("&")
		n := api.Node{Kind: api.NNew, At: at, Kids: []api.Node{m.typeName()}}
		m.put("{")
		n.Kids = append(n.Kids, m.list(m.key)...)
		m.put("}")
		return n
	case choice < 10:
		op := []int{api.Neg, api.Bang}[choice-8]
		at := m.put([]string{"-", "!"}[choice-8])
		return api.Node{Kind: api.NUnary, Op: op, At: at, Kids: []api.Node{m.expr(6)}}
	case choice < 16:
		return m.behind(m.expr(7))
	}
	return m.first()
}

func (m *maker) key() api.Node {
	name, at := m.name()
	m.put(":")
	return api.Node{Kind: api.NKey, Text: name, At: at, Kids: []api.Node{m.expr(1)}}
}

// short makes an expression of one token.
func (m *maker) short() api.Node {
	switch m.upTo(8) {
	case 0:
		n := []int64{0, 1, 42, 1<<63 - 1}[m.upTo(4)]
		return api.Node{Kind: api.NInt, N: n, At: m.put(strconv.FormatInt(n, 10))}
	case 1:
		i := m.upTo(3)
		return api.Node{Kind: api.NText, Text: []string{"", "func", "\n(\""}[i], At: m.put([]string{`""`, `"func"`, `"\n(\""`}[i])}
	case 2:
		return api.Node{Kind: api.NBool, N: 1, At: m.put("true")}
	case 3:
		return api.Node{Kind: api.NBool, At: m.put("false")}
	case 4:
		return api.Node{Kind: api.NNil, At: m.put("nil")}
	}
	name, at := m.name()
	return api.Node{Kind: api.NName, Text: name, At: at}
}

func (m *maker) first() api.Node {
	switch m.upTo(6) {
	case 0:
		n := api.Node{Kind: api.NMethodExpr, At: m.put("(")}
		m.put("*")
		n.Kids = []api.Node{m.typeName()}
		m.puts(")", ".")
		n.Text, _ = m.name()
		return n
	case 1:
		at := m.put("[")
		m.put("]")
		n := api.Node{Kind: api.NList, At: at, Kids: []api.Node{m.typ()}}
		m.put("{")
		n.Kids = append(n.Kids, m.list(m.anyExpr)...)
		m.put("}")
		return n
	case 2:
		n := api.Node{Kind: api.NFuncLit, At: m.put("func")}
		m.head(&n, m.param)
		n.Kids = append(n.Kids, m.block())
		return n
	case 3:
		word := []string{"len", "append", "panic", "put", "get"}[m.upTo(5)]
		return m.call(api.Node{Kind: api.NName, Text: word, At: m.put(word)})
	case 4:
		name := api.Node{Kind: api.NName, Text: "make", At: m.put("make")}
		at := m.put("(")
		kids := []api.Node{name, m.typ()}
		m.put(",")
		kids = append(kids, m.expr(1))
		m.put(")")
		return api.Node{Kind: api.NCall, At: at, Kids: kids}
	}
	return m.short()
}

func (m *maker) call(of api.Node) api.Node {
	n := api.Node{Kind: api.NCall, At: m.put("("), Kids: []api.Node{of}}
	n.Kids = append(n.Kids, m.list(m.anyExpr)...)
	m.put(")")
	return n
}

func (m *maker) behind(of api.Node) api.Node {
	switch m.upTo(5) {
	case 0:
		return m.call(of)
	case 1:
		n := api.Node{Kind: api.NIndex, At: m.put("["), Kids: []api.Node{of}}
		n.Kids = append(n.Kids, m.expr(1))
		m.put("]")
		return n
	case 2:
		n := api.Node{Kind: api.NSlice, At: m.put("["), N: int64(m.upTo(4)), Kids: []api.Node{of}}
		if n.N&1 != 0 {
			n.Kids = append(n.Kids, m.expr(1))
		}
		m.put(":")
		if n.N&2 != 0 {
			n.Kids = append(n.Kids, m.expr(1))
		}
		m.put("]")
		return n
	case 3:
		n := api.Node{Kind: api.NAssert, At: m.put(".")}
		m.put("(")
		n.Kids = []api.Node{of, m.typ()}
		m.put(")")
		return n
	}
	n := api.Node{Kind: api.NSel, At: m.put("."), Kids: []api.Node{of}}
	n.Text, _ = m.name()
	return n
}

func (m *maker) block() api.Node {
	n := api.Node{Kind: api.NBlock, At: m.put("{")}
	for m.more(4) {
		n.Kids = append(n.Kids, m.stat())
	}
	m.put("}")
	return n
}

func (m *maker) variable() api.Node {
	m.put("var")
	n := m.named(api.NVar)
	if m.upTo(2) == 0 {
		m.put("=")
		n.Kids = append(n.Kids, m.expr(1))
	}
	m.put(";")
	return n
}

func (m *maker) branch() api.Node {
	n := api.Node{Kind: api.NIf, At: m.put("if")}
	n.Kids = []api.Node{m.expr(1), m.block()}
	switch m.upTo(3) {
	case 0:
		m.put("else")
		n.Kids = append(n.Kids, m.block())
	case 1:
		m.put("else")
		n.Kids = append(n.Kids, m.branch())
	}
	return n
}

func (m *maker) stat() api.Node {
	switch m.upTo(10) {
	case 0:
		return m.variable()
	case 1:
		name, at := m.name()
		m.put(":=")
		n := api.Node{Kind: api.NDefine, Text: name, At: at, Kids: []api.Node{m.expr(1)}}
		m.put(";")
		return n
	case 2:
		left := m.expr(1)
		at := m.put("=")
		n := api.Node{Kind: api.NAssign, At: at, Kids: []api.Node{left, m.expr(1)}}
		m.put(";")
		return n
	case 3:
		kids := []api.Node{m.expr(1)}
		return api.Node{Kind: api.NDo, At: m.put(";"), Kids: kids}
	case 4:
		return m.branch()
	case 5:
		n := api.Node{Kind: api.NFor, At: m.put("for"), N: int64(m.upTo(2))}
		if n.N == 1 {
			n.Kids = append(n.Kids, m.expr(1))
		}
		n.Kids = append(n.Kids, m.block())
		return n
	case 6:
		i := m.upTo(2)
		n := api.Node{Kind: []int{api.NBreak, api.NContinue}[i], At: m.put([]string{"break", "continue"}[i])}
		m.put(";")
		return n
	case 7:
		n := api.Node{Kind: api.NReturn, At: m.put("return"), Kids: []api.Node{m.expr(1)}}
		m.put(";")
		return n
	case 8:
		n := api.Node{Kind: api.NReturn, At: m.put("return")}
		m.put(";")
		return n
	}
	return m.block()
}

func (m *maker) decl() api.Node {
	m.left = 40
	switch m.upTo(6) {
	case 0:
		n := api.Node{Kind: api.NConst}
		m.put("const")
		n.Text, n.At = m.name()
		m.put("=")
		n.N = []int64{0, 7, 1<<63 - 1}[m.upTo(3)]
		digits := strconv.FormatInt(n.N, 10)
		if m.upTo(2) == 0 {
			m.put("-")
			n.N = -n.N
		}
		m.puts(digits, ";")
		return n
	case 1:
		return m.variable()
	case 2, 3:
		return m.declaredType()
	}
	return m.declaredFunc()
}

func (m *maker) declaredType() api.Node {
	m.put("type")
	name, at := m.name()
	n := api.Node{Kind: api.NStruct, Text: name, At: at}
	if m.upTo(2) == 0 {
		m.puts("struct", "{")
		for m.more(4) {
			n.Kids = append(n.Kids, m.named(api.NField))
			m.put(";")
		}
		m.put("}")
		return n
	}
	n.Kind = api.NIface
	m.puts("interface", "{")
	for m.more(4) {
		sig := api.Node{Kind: api.NSig}
		sig.Text, sig.At = m.name()
		m.head(&sig, m.typ)
		m.put(";")
		n.Kids = append(n.Kids, sig)
	}
	m.put("}")
	return n
}

func (m *maker) declaredFunc() api.Node {
	m.put("func")
	n := api.Node{Kind: api.NFunc}
	if m.upTo(2) == 0 {
		n.Kind = api.NMethod
		m.put("(")
		of := api.Node{Kind: api.NParam}
		of.Text, of.At = m.name()
		pointer := api.Node{Kind: api.NPtr, At: m.put("*")}
		name, at := m.name()
		pointer.Kids = []api.Node{{Kind: api.NTypeName, Text: name, At: at}}
		of.Kids = []api.Node{pointer}
		n.Kids = []api.Node{of}
		m.put(")")
	}
	n.Text, n.At = m.name()
	if n.Kind == api.NFunc && m.upTo(2) == 0 {
		m.put("[")
		for i := range 1 + m.upTo(3) {
			if i > 0 {
				m.put(",")
			}
			n.Kids = append(n.Kids, m.typeVar())
		}
		m.put("]")
	}
	m.head(&n, m.param)
	n.Kids = append(n.Kids, m.block())
	return n
}

func (m *maker) typeVar() api.Node {
	name, at := m.name()
	n := api.Node{Kind: api.NTypeVar, Text: name, At: at, N: int64(m.upTo(3))}
	switch n.N {
	case 0:
		m.put("any")
	case 1:
		m.put("comparable")
	default:
		n.Kids = []api.Node{m.typeName()}
	}
	return n
}

func (m *maker) file() api.Node {
	n := api.Node{Kind: api.NFile, At: m.put("package")}
	n.Text, _ = m.name()
	m.put(";")
	for range m.upTo(3) {
		m.put("import")
		name, at := m.name()
		m.put(";")
		n.Kids = append(n.Kids, api.Node{Kind: api.NImport, Text: name, At: at})
	}
	for range m.upTo(4) {
		n.Kids = append(n.Kids, m.decl())
	}
	return n
}

// 5.2: texts that are made with their trees.
func TestMadeTrees(t *testing.T) {
	kinds := map[int]int{}
	for round := range 4000 {
		m := &maker{state: uint64(round)}
		want := m.file()
		got, at, e := parse.Parse(string(m.text))
		if e != api.OK || at != 0 || !reflect.DeepEqual(got, want) {
			t.Fatalf("Parse(%q): %d, %d,\n%s, want\n%s", m.text, at, e, told(got, 0), told(want, 0))
		}
		countKinds(want, kinds)
	}
	for kind := api.NFile; kind <= api.NMethodExpr; kind++ {
		if kinds[kind] < 100 {
			t.Errorf("of kind %s %d nodes were made", kindNames()[kind], kinds[kind])
		}
	}
}

func countKinds(n api.Node, kinds map[int]int) {
	kinds[n.Kind]++
	for _, kid := range n.Kids {
		countKinds(kid, kinds)
	}
}

// turn changes a list of tokens in one of several ways.
func (m *maker) turn(tokens []string) []string {
	i := m.upTo(len(tokens))
	all := everyToken()
	switch m.upTo(7) {
	case 0:
		return slices.Delete(tokens, i, i+1)
	case 1:
		return slices.Insert(tokens, i, all[m.upTo(len(all))])
	case 2:
		tokens[i] = all[m.upTo(len(all))]
	case 3:
		j := m.upTo(len(tokens))
		tokens[i], tokens[j] = tokens[j], tokens[i]
	case 4:
		return tokens[:i]
	case 5, 6:
		// Behind a token that expressions or statements mostly stand behind.
		for range 10 {
			if slices.Contains([]string{"=", ":=", "(", "{", "return", "+"}, tokens[i]) {
				break
			}
			i = m.upTo(len(tokens))
		}
		bracket := []string{"(", "{", "f (", "s [", "-(", "if a {"}[m.upTo(6)]
		return slices.Insert(tokens, i+1, slices.Repeat([]string{bracket}, 35+m.upTo(6))...)
	}
	return tokens
}

// 5.2: texts that are made and then turned in some places, against the grammar.
func TestTurnedTexts(t *testing.T) {
	g := readGrammar(grammar)
	ends := map[api.Errno]int{}
	for round := range 3000 {
		m := &maker{state: uint64(round) + 1<<40}
		m.file()
		all, _, _ := lex.Lex(string(m.text))
		var tokens []string
		for i, token := range all[:len(all)-1] {
			tokens = append(tokens, strings.TrimSpace(strings.SplitN(string(m.text[token.At:all[i+1].At]), "//", 2)[0]))
		}
		for range m.upTo(3) {
			if len(tokens) > 0 {
				tokens = m.turn(tokens)
			}
		}
		s := strings.Join(tokens, " ")
		whole, _, e := lex.Lex(s)
		if e != api.OK {
			t.Fatalf("Lex(%q): %d", s, e)
		}
		wantAt, want := model(g, whole)
		n, at, e := parse.Parse(s)
		if at != wantAt || e != want || (e != api.OK) != (n.Kind == 0) {
			t.Fatalf("Parse(%q): %d, %d, want %d, %d", s, at, e, wantAt, want)
		}
		ends[e]++
	}
	if ends[api.OK] < 300 || ends[api.ErrText] < 300 || ends[api.ErrDeep] < 30 {
		t.Errorf("how they ended: %v", ends)
	}
}
