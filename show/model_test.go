package show_test

import (
	"math"
	"regexp"
	"slices"
	"strings"

	"mortise/api"
)

// row tells of one form of a node where the grammar has a part of a sort: its kind, what its Text is (see texts), whether it has a Pkg, its N, and its kids: sorts of parts, of which ? tells that it may be left out and * that there are as many as one likes.
type row struct {
	sort string
	kind int
	text string
	pkg  bool
	n    int64
	kids string
}

// rows are the chapter's grammar and table of nodes of layer 5. A kind of 0 stands for all the forms of the sort that kids names.
func rows() []row {
	return []row{
		{"file", api.NFile, "name", false, 0, "import* decl*"},
		{"import", api.NImport, "name", false, 0, ""},
		{"decl", api.NConst, "name", false, anyNumber, ""},
		{"decl", 0, "", false, 0, "var"},
		{"decl", api.NStruct, "name", false, 0, "field*"},
		{"decl", api.NIface, "name", false, 0, "sig*"},
		{"decl", api.NFunc, "name", false, 0, "tvar* param* block"},
		{"decl", api.NFunc, "name", false, 1, "tvar* param* type block"},
		{"decl", api.NMethod, "name", false, 0, "receiver param* block"},
		{"decl", api.NMethod, "name", false, 1, "receiver param* type block"},
		{"var", api.NVar, "name", false, 0, "type expr?"},
		{"field", api.NField, "name", false, 0, "type"},
		{"sig", api.NSig, "name", false, 0, "type*"},
		{"sig", api.NSig, "name", false, 1, "type* type"},
		{"tvar", api.NTypeVar, "name", false, 0, ""},
		{"tvar", api.NTypeVar, "name", false, 1, ""},
		{"tvar", api.NTypeVar, "name", false, 2, "typename"},
		{"receiver", api.NParam, "name", false, 0, "pointer"},
		{"pointer", api.NPtr, "", false, 0, "own"},
		{"own", api.NTypeName, "name", false, 0, ""},
		{"param", api.NParam, "name", false, 0, "type"},
		{"typename", api.NTypeName, "name", false, 0, ""},
		{"typename", api.NTypeName, "name", true, 0, ""},
		{"type", api.NTypeName, "int bool string", false, 0, ""},
		{"type", 0, "", false, 0, "typename"},
		{"type", api.NPtr, "", false, 0, "typename"},
		{"type", api.NSliceOf, "", false, 0, "type"},
		{"type", api.NFuncOf, "", false, 0, "type*"},
		{"type", api.NFuncOf, "", false, 1, "type* type"},
		{"block", api.NBlock, "", false, 0, "stat*"},
		{"stat", 0, "", false, 0, "var"},
		{"stat", 0, "", false, 0, "block"},
		{"stat", 0, "", false, 0, "if"},
		{"stat", api.NDefine, "name", false, 0, "expr"},
		{"stat", api.NAssign, "", false, 0, "expr expr"},
		{"stat", api.NDo, "", false, 0, "expr"},
		{"stat", api.NFor, "", false, 0, "block"},
		{"stat", api.NFor, "", false, 1, "expr block"},
		{"stat", api.NBreak, "", false, 0, ""},
		{"stat", api.NContinue, "", false, 0, ""},
		{"stat", api.NReturn, "", false, 0, "expr?"},
		{"if", api.NIf, "", false, 0, "expr block else?"},
		{"else", 0, "", false, 0, "block"},
		{"else", 0, "", false, 0, "if"},
		{"expr", api.NInt, "", false, anyNumber, ""},
		{"expr", api.NText, "string", false, 0, ""},
		{"expr", api.NBool, "", false, 0, ""},
		{"expr", api.NBool, "", false, 1, ""},
		{"expr", api.NNil, "", false, 0, ""},
		{"expr", api.NName, "name", false, 0, ""},
		{"expr", api.NBinary, "", false, 0, "expr expr"},
		{"expr", api.NUnary, "", false, 0, "expr"},
		{"expr", api.NCall, "", false, 0, "expr expr*"},
		{"expr", api.NCall, "", false, 0, "word expr*"},
		{"expr", api.NCall, "", false, 0, "make type expr"},
		{"expr", api.NIndex, "", false, 0, "expr expr"},
		{"expr", api.NSlice, "", false, 0, "expr"},
		{"expr", api.NSlice, "", false, 1, "expr expr"},
		{"expr", api.NSlice, "", false, 2, "expr expr"},
		{"expr", api.NSlice, "", false, 3, "expr expr expr"},
		{"expr", api.NSel, "name", false, 0, "expr"},
		{"expr", api.NAssert, "", false, 0, "expr type"},
		{"expr", api.NNew, "", false, 0, "typename key*"},
		{"expr", api.NList, "", false, 0, "type expr*"},
		{"expr", api.NFuncLit, "", false, 0, "param* block"},
		{"expr", api.NFuncLit, "", false, 1, "param* type block"},
		{"expr", api.NMethodExpr, "name", false, 0, "typename"},
		{"word", api.NName, "len append panic put get", false, 0, ""},
		{"make", api.NName, "make", false, 0, ""},
		{"key", api.NKey, "name", false, 0, "expr"},
	}
}

// anyNumber is the N of a row whose N is what the text says.
const anyNumber = -9

func allWords() []string {
	return strings.Fields("package import const var type struct interface func if else for break continue return int bool string true false nil any comparable len append make panic put get")
}

// model tells by the rows which trees the grammar has.
type model struct {
	of          map[string][]row
	words       []string
	name, meant *regexp.Regexp
}

func newModel() *model {
	m := &model{
		of:    map[string][]row{},
		words: allWords(),
		name:  regexp.MustCompile(`\A[a-zA-Z_][a-zA-Z_0-9]{0,15}\z`),
		meant: regexp.MustCompile(`\A[\n -~]{0,100}\z`),
	}
	for _, r := range rows() {
		m.of[r.sort] = append(m.of[r.sort], r)
	}
	return m
}

func (m *model) isName(s string) bool {
	return m.name.MatchString(s) && !slices.Contains(m.words, s)
}

// textFits tells whether a Text is as a row has it: a name, what a string means, nothing, or one of several words.
func (m *model) textFits(s, text string) bool {
	switch text {
	case "name":
		return m.isName(s)
	case "string":
		return m.meant.MatchString(s)
	case "":
		return s == ""
	}
	return slices.Contains(strings.Fields(text), s)
}

func (m *model) opFits(n api.Node) bool {
	ops := []int{0}
	switch n.Kind {
	case api.NBinary:
		ops = binaryOps()
	case api.NUnary:
		ops = unaryOps()
	}
	return slices.Contains(ops, n.Op)
}

func numberFits(n api.Node, r row) bool {
	if r.n != anyNumber {
		return n.N == r.n
	}
	return n.N >= 0 || n.Kind == api.NConst && n.N != math.MinInt64
}

// fits tells whether a node may stand where the grammar has a part of a sort.
func (m *model) fits(n api.Node, sort string) bool {
	for _, r := range m.of[sort] {
		if r.kind == 0 {
			if m.fits(n, r.kids) {
				return true
			}
			continue
		}
		if r.kind != n.Kind || !m.opFits(n) || !numberFits(n, r) || !m.textFits(n.Text, r.text) {
			continue
		}
		if (r.pkg && m.isName(n.Pkg) || !r.pkg && n.Pkg == "") && m.kidsFit(n.Kids, strings.Fields(r.kids)) {
			return true
		}
	}
	return false
}

func (m *model) kidsFit(kids []api.Node, sorts []string) bool {
	if len(sorts) == 0 {
		return len(kids) == 0
	}
	sort := strings.TrimRight(sorts[0], "?*")
	many := sort+"*" == sorts[0]
	if sort != sorts[0] && m.kidsFit(kids, sorts[1:]) {
		return true
	}
	if len(kids) == 0 || !m.fits(kids[0], sort) {
		return false
	}
	return many && m.kidsFit(kids[1:], sorts) || m.kidsFit(kids[1:], sorts[1:])
}

func binaryOps() []int {
	return []int{api.Add, api.Sub, api.Mul, api.Div, api.Rem, api.Eq, api.Ne, api.Lt, api.Le, api.Gt, api.Ge, api.AndAnd, api.OrOr}
}

func unaryOps() []int { return []int{api.Neg, api.Bang} }

// maker makes trees by the rows.
type maker struct {
	*model
	state uint64
	// How many nodes more may be made that need not be, and how deep they may stand.
	left, deep int
}

// upTo is a number below n, the same ones in each run.
func (m *maker) upTo(n int) int {
	m.state = m.state*6364136223846793005 + 1442695040888963407
	return int(m.state >> 33 % uint64(n))
}

func pick[T any](m *maker, of []T) T { return of[m.upTo(len(of))] }

func (m *maker) text(of string) string {
	switch of {
	case "name":
		return pick(m, []string{"a", "b", "x1", "Name", "_", "ints", "T", "sixteen_bytes_16"})
	case "string":
		return pick(m, []string{"", "func", "\n(\"", "\\", "\"", "a b", " ", "~\n\n"})
	case "":
		return ""
	}
	return pick(m, strings.Fields(of))
}

// make makes a node that stands where the grammar has a part of a sort.
func (m *maker) make(sort string) api.Node {
	m.left--
	m.deep--
	defer func() { m.deep++ }()
	of := m.of[sort]
	if m.left <= 0 || m.deep <= 0 {
		short := slices.DeleteFunc(slices.Clone(of), func(r row) bool { return r.kids != "" && r.kind != 0 || r.kids == "if" })
		if len(short) > 0 {
			of = short
		}
	}
	r := pick(m, of)
	if r.kind == 0 {
		return m.make(r.kids)
	}
	n := api.Node{Kind: r.kind, Text: m.text(r.text), N: r.n, At: m.upTo(3)}
	if r.pkg {
		n.Pkg = m.text("name")
	}
	switch n.Kind {
	case api.NConst:
		n.N = pick(m, []int64{0, 1, -1, math.MaxInt64, -math.MaxInt64})
	case api.NInt:
		n.N = pick(m, []int64{0, 1, 1000, math.MaxInt64})
	case api.NBinary:
		n.Op = pick(m, binaryOps())
	case api.NUnary:
		n.Op = pick(m, unaryOps())
	}
	for _, sort := range strings.Fields(r.kids) {
		n.Kids = append(n.Kids, m.makeSome(sort)...)
	}
	return n
}

// makeSome makes as many nodes of a sort as its ? or * allow.
func (m *maker) makeSome(sort string) []api.Node {
	one := strings.TrimRight(sort, "?*")
	if one == sort {
		return []api.Node{m.make(one)}
	}
	var made []api.Node
	for m.left > 0 && m.deep > 0 && m.upTo(4) > 0 && (len(made) == 0 || sort == one+"*") {
		made = append(made, m.make(one))
	}
	return made
}
