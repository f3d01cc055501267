package show_test

import (
	"math"
	"reflect"
	"slices"
	"strconv"
	"strings"
	"testing"

	"mortise/api"
	"mortise/parse"
	"mortise/show"
)

func node(kind int, text string, kids ...api.Node) api.Node {
	return api.Node{Kind: kind, Text: text, Kids: kids}
}

func file(kids ...api.Node) api.Node { return node(api.NFile, "a", kids...) }

func ofInt() api.Node { return node(api.NTypeName, "int") }

func number(n int64) api.Node { return api.Node{Kind: api.NInt, N: n} }

func name(s string) api.Node { return node(api.NName, s) }

func variable(x api.Node) api.Node { return node(api.NVar, "x", ofInt(), x) }

func call(of api.Node, args ...api.Node) api.Node {
	return api.Node{Kind: api.NCall, Kids: append([]api.Node{of}, args...)}
}

func minus(n api.Node) api.Node {
	return api.Node{Kind: api.NUnary, Op: api.Neg, Kids: []api.Node{n}}
}

// times puts a node in others of a form, one within the other.
func times(count int, n api.Node, form func(api.Node) api.Node) api.Node {
	for range count {
		n = form(n)
	}
	return n
}

// checkShown holds that a text is shown just as it stands.
func checkShown(t *testing.T, s string) {
	t.Helper()
	n, at, e := parse.Parse(s)
	if e != api.OK {
		t.Fatalf("Parse(%q): %d, %d", s, at, e)
	}
	if got := checkText(t, n); got != s {
		t.Errorf("shown as\n%q, want\n%q", got, s)
	}
}

// 6.2: the chapter's example, and how blanks, remarks and needless brackets go.
func TestExample(t *testing.T) {
	for _, c := range []struct{ s, want string }{
		{"package a;var x int=(1+2)*3;", "package a ; var x int = ( 1 + 2 ) * 3 ;"},
		{"\n\tpackage a // b\n;", "package a ;"},
		{"package a;var x int=((1));", "package a ; var x int = 1 ;"},
		{"package a;const c=-0;", "package a ; const c = 0 ;"},
		{"package a;var x int=(a*b)+((c))-(d[(1)]);", "package a ; var x int = a * b + c - d [ 1 ] ;"},
		{"package a;func f(){(f)((1),(2));if(a){}for(b){}return(c);}", "package a ; func f ( ) { f ( 1 , 2 ) ; if a { } for b { } return c ; }"},
	} {
		n, at, e := parse.Parse(c.s)
		if e != api.OK {
			t.Fatalf("Parse(%q): %d, %d", c.s, at, e)
		}
		if got := checkText(t, n); got != c.want {
			t.Errorf("of %q: %q, want %q", c.s, got, c.want)
		}
	}
}

// 6.2, 6.3: declarations and types.
func TestDecls(t *testing.T) {
	for _, s := range []string{
		"package a ;",
		"package a ; import b ;",
		"package a ; import b ; import c ; const d = 1 ; var e int ; const f = 2 ;",
		"package a ; const c = 0 ; const d = 9223372036854775807 ; const e = - 9223372036854775807 ; const f = - 1 ;",
		"package a ; var x b . T ; var y int = 1 ; var z [ ] [ ] * b . T ;",
		"package a ; var x func ( ) ; var y func ( int , bool ) string ; var z func ( func ( ) T ) func ( ) func ( * T ) [ ] func ( ) = nil ;",
		"package a ; type T struct { } type U struct { a int ; b * T ; }",
		"package a ; type I interface { } type J interface { m ( ) ; n ( int ) ; o ( int , b . I ) bool ; p ( ) [ ] int ; }",
		"package a ; func f ( ) { } func g ( a int ) { } func h ( a int , b bool ) string { return \"\" ; } func i ( ) func ( ) { }",
		"package a ; func G [ A any ] ( ) { } func H [ A any , B comparable , C I , D b . I ] ( a A ) A { return a ; }",
		"package a ; func ( t * T ) m ( ) { } func ( t * T ) n ( a int , b bool ) int { return 1 ; }",
	} {
		checkShown(t, s)
	}
}

// 6.2, 6.3: statements.
func TestStats(t *testing.T) {
	for _, s := range []string{
		"", "{ }", "{ { } { } }", "var x int ;", "var x T = 1 ;", "x := 1 ;", "x = 1 ;", "x . a [ 1 ] = - 1 ;", "f ( ) ;", "x ;", "a + b = c ;",
		"if a { }", "if a { x ; }", "if a { } else { }", "if a { } else if b { } else if c { } else { }", "if func ( ) { } { }", "if & T { } == x { }", "if [ ] int { 1 } { }",
		"for { }", "for a { }", "for { break ; continue ; }", "for func ( ) bool { return true ; } ( ) { }",
		"return ;", "return 1 ;", "return func ( ) { } ;", "func ( ) { } ( ) ;", "& T { } ;", "- a ;", "( - a ) ( ) ;",
	} {
		checkShown(t, strings.ReplaceAll("package a ; func f ( ) { "+s+" }", "  ", " "))
	}
}

// 6.2, 6.3: expressions.
func TestExprs(t *testing.T) {
	for _, s := range []string{
		"0", "1", "9223372036854775807", "true", "false", "nil", "x", `""`, `"a b"`, `"\n"`, `"\""`, `"\\"`, `"\\n"`, `"\\\"\n//"`, `"( ["`, `"!#$%&'()*+,-./:;<=>?@[]^_{|}~"`,
		"f ( )", "f ( 1 )", "f ( 1 , x , nil )", "f ( ) ( ) ( )", "len ( x )", "len ( )", "append ( s , 1 )", "panic ( 1 )", "put ( 1 )", "get ( )", "get ( ) ( )", "len ( x , y ) [ 0 ]",
		"make ( [ ] int , 3 )", "make ( T , a + b )", "make ( func ( ) , 1 ) [ 0 ]",
		"s [ 1 ]", "s [ a + b ] [ c ]", "s [ : ]", "s [ 1 : ]", "s [ : 2 ]", "s [ 1 : 2 ]", "s [ - 1 : a || b ] [ : ]",
		"x . a", "x . a . b", "1 . a", `"s" [ 0 ]`, "nil . a", "x . ( T )", "x . ( b . T ) . c", "x . ( * T )", "x . ( func ( ) [ ] int ) ( )",
		"& T { }", "& b . T { a : 1 }", "& T { a : & U { } , b : 1 + 2 }", "( & T { } ) . a", "( & T { } ) [ 1 ]", "( & T { } ) ( )", "( & T { } ) . ( T )", "( & T { } ) [ : ]", "- & T { }", "& T { } == & T { }",
		"[ ] int { }", "[ ] [ ] int { x , 1 }", "[ ] func ( ) { }", "[ ] func ( ) int { x } [ 0 ]", "[ ] int { } . a", "[ ] int { 1 } [ : 1 ]",
		"func ( ) { }", "func ( a int , b * T ) [ ] int { return nil ; }", "func ( ) { } ( )", "func ( ) func ( ) { }", "func ( ) { } . a",
		"( * T ) . m", "( * b . T ) . m", "( * T ) . m ( x )", "( * T ) . m . n", "- ( * T ) . m",
		"- x", "- - x", "! x", "! - ! x", "- 1", "- x [ 1 ]", "( - x ) [ 1 ]", "( - x ) ( )", "( - x ) . a", "( ! x ) . ( T )", "( - x ) [ : ]", "- ( a + b )", "- ( a * b )", "! ( a == b )", "! a == b", "- a * b", "- a * - b",
		"( a + b ) . c", "( a * b ) ( )", "( a || b ) [ 1 ]",
		"a + b + c", "a + ( b + c )", "a - ( b - c ) - d", "a * b + c", "a + b * c", "( a + b ) * c", "a * ( b + c )", "a * ( b * c )", "a / b * c % d", "a / ( b * ( c % d ) )",
		"a || b && c == d + e * f", "( a || b ) && c", "a || ( b || c )", "a && ( b && c )", "( ( ( a || b ) && c ) == d ) + e", "a < b == c", "a == ( b < c )", "a * ( b + ( c == ( d && ( e || f ) ) ) )",
	} {
		checkShown(t, "package a ; var x int = "+s+" ;")
	}
}

// plainExprs are expressions that need no brackets wherever they stand.
func plainExprs() []api.Node {
	x := name("x")
	return []api.Node{
		number(1), node(api.NText, "s"), {Kind: api.NBool, N: 1}, {Kind: api.NBool}, {Kind: api.NNil}, x,
		call(x), call(name("len"), x), call(name("make"), ofInt(), x), node(api.NIndex, "", x, x), node(api.NSlice, "", x), node(api.NSel, "b", x), node(api.NAssert, "", x, ofInt()),
		node(api.NList, "", ofInt()), node(api.NFuncLit, "", node(api.NBlock, "")), node(api.NMethodExpr, "m", node(api.NTypeName, "T")),
	}
}

// signedExprs are expressions with a sign ahead.
func signedExprs() []api.Node {
	all := []api.Node{node(api.NNew, "", node(api.NTypeName, "T"))}
	for _, op := range unaryOps() {
		all = append(all, api.Node{Kind: api.NUnary, Op: op, Kids: []api.Node{name("x")}})
	}
	return all
}

// binaryExprs are expressions of two.
func binaryExprs() []api.Node {
	var all []api.Node
	for _, op := range binaryOps() {
		all = append(all, api.Node{Kind: api.NBinary, Op: op, Kids: []api.Node{name("x"), name("x")}})
	}
	return all
}

// shown is an expression's text.
func shown(t *testing.T, n api.Node) string {
	t.Helper()
	s := checkText(t, file(variable(n)))
	return strings.TrimSuffix(strings.TrimPrefix(s, "package a ; var x int = "), " ;")
}

// checkInside holds that an expression's text has that of an expression in it, in brackets or not.
func checkInside(t *testing.T, n, inside api.Node, brackets bool) {
	t.Helper()
	part := shown(t, inside)
	if s := shown(t, n); strings.Contains(s, "( "+part+" )") != brackets || !strings.Contains(s, part) {
		t.Errorf("of %v: %q", n, s)
	}
}

// 6.2: brackets, of each expression where any may stand, where something stands behind it, or a sign ahead.
func TestBrackets(t *testing.T) {
	x := name("y")
	plains, signed, ofTwo := plainExprs(), signedExprs(), binaryExprs()
	for _, n := range slices.Concat(plains, signed, ofTwo) {
		for _, form := range []api.Node{node(api.NIndex, "", x, n), node(api.NList, "", ofInt(), n, n), node(api.NNew, "", node(api.NTypeName, "T"), node(api.NKey, "k", n)), {Kind: api.NSlice, N: 3, Kids: []api.Node{x, n, n}}} {
			checkInside(t, form, n, false)
		}
		// A call's own brackets stand about its arguments.
		if s := shown(t, call(x, n, n)); s != "y ( "+shown(t, n)+" , "+shown(t, n)+" )" {
			t.Errorf("of %v: %q", n, s)
		}
		brackets := !slices.ContainsFunc(plains, func(plain api.Node) bool { return same(plain, n) })
		for _, form := range []api.Node{call(n), node(api.NIndex, "", n, x), node(api.NSlice, "", n), node(api.NSel, "b", n), node(api.NAssert, "", n, ofInt())} {
			checkInside(t, form, n, brackets)
		}
		for _, op := range unaryOps() {
			checkInside(t, api.Node{Kind: api.NUnary, Op: op, Kids: []api.Node{n}}, n, n.Kind == api.NBinary)
		}
	}
}

// 6.2: brackets, of each two expressions in each of two.
func TestBracketsOfTwo(t *testing.T) {
	ofTwo := binaryExprs()
	for _, op := range binaryOps() {
		_, binds := parse.Sign(op)
		for _, n := range ofTwo {
			_, inner := parse.Sign(n.Op)
			checkInside(t, api.Node{Kind: api.NBinary, Op: op, Kids: []api.Node{n, name("y")}}, n, inner < binds)
			checkInside(t, api.Node{Kind: api.NBinary, Op: op, Kids: []api.Node{name("y"), n}}, n, inner <= binds)
			for _, m := range ofTwo {
				checkText(t, file(variable(api.Node{Kind: api.NBinary, Op: op, Kids: []api.Node{n, m}})))
			}
		}
		for _, n := range slices.Concat(plainExprs(), signedExprs()) {
			checkInside(t, api.Node{Kind: api.NBinary, Op: op, Kids: []api.Node{n, n}}, n, false)
		}
	}
}

// 6.2: each byte of a string.
func TestStrings(t *testing.T) {
	for c := range 256 {
		n := file(variable(node(api.NText, string([]byte{'a', byte(c), 'b'}))))
		if c != '\n' && (c < ' ' || c > '~') {
			checkRefused(t, n, api.ErrForm)
			checkRefused(t, long(n), api.ErrForm)
			continue
		}
		want := string([]byte{byte(c)})
		switch c {
		case '\n':
			want = `\n`
		case '"', '\\':
			want = `\` + want
		}
		if s := checkText(t, n); s != `package a ; var x int = "a`+want+`b" ;` {
			t.Errorf("of byte %d: %q", c, s)
		}
	}
	for _, c := range []string{"s", "\n", "\"", "\\"} {
		checkText(t, file(variable(node(api.NText, strings.Repeat(c, api.MaxString)))))
		more := file(variable(node(api.NText, strings.Repeat(c, api.MaxString+1))))
		checkRefused(t, more, api.ErrForm)
		checkRefused(t, long(more), api.ErrForm)
	}
}

// 6.2: names of all sorts, in each place of one.
func TestNames(t *testing.T) {
	block := node(api.NBlock, "")
	places := map[string]func(s string) api.Node{
		"package":   func(s string) api.Node { return node(api.NFile, s) },
		"import":    func(s string) api.Node { return file(node(api.NImport, s)) },
		"const":     func(s string) api.Node { return file(node(api.NConst, s)) },
		"var":       func(s string) api.Node { return file(node(api.NVar, s, ofInt())) },
		"struct":    func(s string) api.Node { return file(node(api.NStruct, s)) },
		"field":     func(s string) api.Node { return file(node(api.NStruct, "T", node(api.NField, s, ofInt()))) },
		"interface": func(s string) api.Node { return file(node(api.NIface, s)) },
		"sig":       func(s string) api.Node { return file(node(api.NIface, "I", node(api.NSig, s))) },
		"func":      func(s string) api.Node { return file(node(api.NFunc, s, block)) },
		"param":     func(s string) api.Node { return file(node(api.NFunc, "f", node(api.NParam, s, ofInt()), block)) },
		"type var":  func(s string) api.Node { return file(node(api.NFunc, "f", node(api.NTypeVar, s), block)) },
		"method":    func(s string) api.Node { return file(method(s, "t", "T", block)) },
		"receiver":  func(s string) api.Node { return file(method("m", s, "T", block)) },
		"its type":  func(s string) api.Node { return file(method("m", "t", s, block)) },
		"type":      func(s string) api.Node { return file(node(api.NVar, "x", node(api.NTypeName, s))) },
		"type's pkg": func(s string) api.Node {
			return file(node(api.NVar, "x", api.Node{Kind: api.NTypeName, Pkg: s, Text: "T"}))
		},
		"type of pkg": func(s string) api.Node {
			return file(node(api.NVar, "x", api.Node{Kind: api.NTypeName, Pkg: "p", Text: s}))
		},
		"pointer": func(s string) api.Node { return file(node(api.NVar, "x", node(api.NPtr, "", node(api.NTypeName, s)))) },
		"bound": func(s string) api.Node {
			return file(node(api.NFunc, "f", api.Node{Kind: api.NTypeVar, N: 2, Text: "A", Kids: []api.Node{node(api.NTypeName, s)}}, block))
		},
		"define": func(s string) api.Node {
			return file(node(api.NFunc, "f", node(api.NBlock, "", node(api.NDefine, s, number(1)))))
		},
		"name":        func(s string) api.Node { return file(variable(name(s))) },
		"called":      func(s string) api.Node { return file(variable(call(name(s)))) },
		"called of 2": func(s string) api.Node { return file(variable(call(name(s), ofInt(), name("x")))) },
		"sel":         func(s string) api.Node { return file(variable(node(api.NSel, s, name("x")))) },
		"new":         func(s string) api.Node { return file(variable(node(api.NNew, "", node(api.NTypeName, s)))) },
		"key": func(s string) api.Node {
			return file(variable(node(api.NNew, "", node(api.NTypeName, "T"), node(api.NKey, s, number(1)))))
		},
		"method expr": func(s string) api.Node { return file(variable(node(api.NMethodExpr, s, node(api.NTypeName, "T")))) },
		"of method":   func(s string) api.Node { return file(variable(node(api.NMethodExpr, "m", node(api.NTypeName, s)))) },
	}
	others := map[string][]string{
		"type": {"int", "bool", "string"}, "called": {"len", "append", "panic", "put", "get"}, "called of 2": {"make"},
	}
	names := []string{"x", "X", "_", "a1", "_1", "lens", "Int", strings.Repeat("x", api.MaxName)}
	wrong := []string{"1", "1x", "a b", " a", "a ", "a.b", "a-b", "a;", "(", "é", "a\n", "\"a\"", "//", strings.Repeat("x", api.MaxName+1), strings.Repeat("x", 1<<20)}
	for place, at := range places {
		for _, s := range names {
			if place != "called of 2" {
				checkText(t, at(s))
			}
		}
		for _, s := range wrong {
			checkRefused(t, at(s), api.ErrForm)
			checkRefused(t, long(at(s)), api.ErrForm)
		}
		if place != "type's pkg" {
			checkRefused(t, at(""), api.ErrForm)
		}
		for _, s := range allWords() {
			if slices.Contains(others[place], s) {
				checkText(t, at(s))
			} else {
				checkRefused(t, at(s), api.ErrForm)
			}
		}
	}
}

func method(s, of, typeName string, block api.Node) api.Node {
	receiver := node(api.NParam, of, node(api.NPtr, "", node(api.NTypeName, typeName)))
	return node(api.NMethod, s, receiver, block)
}

// 6.2: each field of each kind of node that is not of the table, and each N and Op.
func TestFields(t *testing.T) {
	m := newModel()
	s := "package a; import b; const c=1; var d int=1; type e struct{f int;} type g interface{h(int)bool;} func i[j any,k b.I](l []b.m)func(){n:=1; o=2; p(3); if q{}else{} for r{break;continue;} return s;} func(t*u)v(){return \"w\"; return true; return nil; return 1+2; return -3; return x[4]; return x[5:6]; return x.y; return x.(z); return &A{B:7}; return []int{8}; return func(){}; return (*C).D;}"
	n, _, e := parse.Parse(s)
	if e != api.OK {
		t.Fatal(e)
	}
	var all []*api.Node
	kinds := map[int]bool{}
	eachNode(&n, func(part *api.Node) { all = append(all, part); kinds[part.Kind] = true })
	if len(kinds) != api.NMethodExpr {
		t.Errorf("of %d kinds", len(kinds))
	}
	check := func() { checkEither(t, m, n) }
	check()
	for _, part := range all {
		was := *part
		for kind := -1; kind <= api.NMethodExpr+1; kind++ {
			part.Kind = kind
			check()
		}
		*part = was
		for op := -1; op <= api.OrOr+1; op++ {
			part.Op = op
			check()
		}
		*part = was
		for _, number := range []int64{-1 << 63, -1<<63 + 1, -2, -1, 0, 1, 2, 3, 4, 5, 1 << 32, 1<<32 + 1, 1<<63 - 1} {
			part.N = number
			check()
		}
		*part = was
		for _, text := range []string{"", "x", "int", "len", "make", "func"} {
			part.Text = text
			check()
			*part = was
			part.Pkg = text
			check()
			*part = was
		}
		for i := range was.Kids {
			part.Kids = slices.Delete(slices.Clone(was.Kids), i, i+1)
			check()
			part.Kids = slices.Insert(slices.Clone(was.Kids), i, was.Kids[i])
			check()
		}
		for _, other := range []api.Node{number(1), ofInt(), node(api.NBlock, ""), {}} {
			part.Kids = append(slices.Clone(was.Kids), other)
			check()
		}
		*part = was
	}
}

// 6.2: of a node that stands in each place of each other one.
func TestPlaces(t *testing.T) {
	m := newModel()
	s := "package a; import b; const c=1; var d b.T; type e struct{f int;} type g interface{h(int)bool;} func i[j any](k func())[]int{l:=make(int,1); m=2; len(3); if n{}else if o{}else{} for p{break;continue;} for{} return;} func(q*r)s(t*u)int{return v && -w[1][2:].x.(y); return &A{B:7}; return []int{true,nil,\"\"}; return func(){}; return (*C).D;}"
	n, _, e := parse.Parse(s)
	if e != api.OK {
		t.Fatal(e)
	}
	var all []*api.Node
	eachNode(&n, func(part *api.Node) { all = append(all, part) })
	counts := map[bool]int{}
	for _, part := range all {
		was := *part
		for _, other := range all {
			*part = plain(*other)
			counts[checkEither(t, m, n)]++
			*part = was
		}
	}
	if counts[true] < 500 || counts[false] < 2000 {
		t.Errorf("how they ended: %v", counts)
	}
}

// 6.2: as many nodes as may be, and one more, wherever and whatever they are.
func TestMaxNodes(t *testing.T) {
	// A file, a function, a block; in it statements of 91 nodes each.
	full := func(last int) api.Node {
		body := node(api.NBlock, "")
		for range 32 {
			body.Kids = append(body.Kids, node(api.NDo, "", times(89, name("x"), minus)))
		}
		body.Kids = append(body.Kids, node(api.NDo, "", times(last, name("x"), minus)))
		return file(node(api.NFunc, "f", body))
	}
	last := api.MaxNodes - 3 - 32*91 - 2
	checkText(t, full(last))
	checkRefused(t, full(last+1), api.ErrLong)

	wrong := api.Node{Kind: api.NFile, Kids: make([]api.Node, api.MaxNodes)}
	checkRefused(t, wrong, api.ErrLong)
	wrong.Kids = wrong.Kids[1:]
	checkRefused(t, wrong, api.ErrForm)
	deep := times(api.MaxNodes, api.Node{}, func(n api.Node) api.Node { return api.Node{Kids: []api.Node{n}} })
	checkRefused(t, deep, api.ErrLong)
	checkRefused(t, deep.Kids[0], api.ErrDeep)
}

// 6.2: nodes are counted where they stand, though there be few of them.
func TestSharedNodes(t *testing.T) {
	sum := func(n api.Node) api.Node {
		return api.Node{Kind: api.NBinary, Op: api.Add, Kids: []api.Node{n, n}}
	}
	checkText(t, file(variable(times(7, name("x"), sum))))
	checkRefused(t, file(variable(times(11, name("x"), sum))), api.ErrLong)
	checkRefused(t, file(variable(times(60, name("x"), sum))), api.ErrLong)
	checkRefused(t, file(variable(times(1000, name("x"), sum))), api.ErrLong)
	wide := slices.Repeat([]api.Node{number(1)}, 1000)
	for range 50 {
		wide = slices.Repeat([]api.Node{{Kind: api.NList, Kids: wide}}, 1000)
	}
	checkRefused(t, file(wide...), api.ErrLong)
	ring := make([]api.Node, 2)
	ring[1] = minus(api.Node{})
	ring[1].Kids = ring
	checkRefused(t, file(ring...), api.ErrLong)
}

// 6.2: as deep as a tree may be, and one more, whatever it is.
func TestMaxDepth(t *testing.T) {
	checkText(t, file(variable(times(api.MaxDepth-3, name("x"), minus))))
	checkRefused(t, file(variable(times(api.MaxDepth-2, name("x"), minus))), api.ErrDeep)
	checkRefused(t, file(variable(times(api.MaxDepth-3, name("len"), minus))), api.ErrForm)
	checkRefused(t, file(variable(times(api.MaxDepth-2, name("len"), minus))), api.ErrDeep)
	// A chain of else counts too, though its text has few open brackets.
	chain := func(n api.Node) api.Node { return node(api.NIf, "", name("x"), node(api.NBlock, ""), n) }
	for _, c := range []struct {
		count int
		e     api.Errno
	}{{api.MaxDepth - 4, api.OK}, {api.MaxDepth - 3, api.ErrDeep}} {
		n := file(node(api.NFunc, "f", node(api.NBlock, "", times(c.count, node(api.NBlock, ""), chain))))
		if c.e == api.OK {
			checkText(t, n)
		} else {
			checkRefused(t, n, c.e)
		}
	}
}

// 6.2: as many brackets open as layer 5 reads, and one more.
func TestMaxDeep(t *testing.T) {
	leaf := name("x")
	for _, c := range []struct {
		limit int
		form  func(api.Node) api.Node
	}{
		{api.MaxDeep, func(n api.Node) api.Node { return call(leaf, n) }},
		{api.MaxDeep, func(n api.Node) api.Node { return node(api.NIndex, "", leaf, n) }},
		{api.MaxDeep, func(n api.Node) api.Node { return node(api.NList, "", ofInt(), n) }},
		{api.MaxDeep, func(n api.Node) api.Node { return node(api.NNew, "", node(api.NTypeName, "T"), node(api.NKey, "k", n)) }},
		{api.MaxDeep, func(n api.Node) api.Node { return api.Node{Kind: api.NSlice, N: 2, Kids: []api.Node{leaf, n}} }},
		{api.MaxDeep, func(n api.Node) api.Node { return node(api.NSel, "a", minus(n)) }},
		// The innermost one needs no brackets.
		{api.MaxDeep + 1, func(n api.Node) api.Node {
			return api.Node{Kind: api.NBinary, Op: api.Add, Kids: []api.Node{leaf, n}}
		}},
	} {
		n := times(c.limit, leaf, c.form)
		checkText(t, file(variable(n)))
		checkRefused(t, file(variable(c.form(n))), api.ErrForm)
	}
	// One in brackets that is left again is not open any more.
	flat := make([]api.Node, 100)
	for i := range flat {
		flat[i] = variable(call(call(leaf, minus(leaf)), number(int64(i))))
	}
	checkText(t, file(flat...))
}

// 6.2: texts as long as may be, and one byte more.
func TestMaxText(t *testing.T) {
	for more := range 3 {
		var kids []api.Node
		// 8000 bytes, of 80 declarations each with the blank ahead of it, behind 11.
		for range 80 {
			kids = append(kids, variable(node(api.NText, strings.Repeat("s", 100-len(` var x int = "" ;`)))))
		}
		rest := api.MaxText - 1 + more - 8000 - len("package a ;")
		for _, size := range []int{rest - rest/2, rest / 2} {
			kids = append(kids, variable(node(api.NText, strings.Repeat("s", size-len(` var x int = "" ;`)))))
		}
		n := file(kids...)
		if more == 2 {
			checkRefused(t, n, api.ErrLong)
			continue
		}
		if s := checkText(t, n); len(s) != api.MaxText-1+more {
			t.Errorf("%d bytes", len(s))
		}
	}
	// Bytes of the text are counted, not of what it means.
	quotes := slices.Repeat([]api.Node{variable(node(api.NText, strings.Repeat("\\", 100)))}, 40)
	checkRefused(t, file(quotes...), api.ErrLong)
}

// 6.1: each field of each node, and each list, at each depth.
func TestAlike(t *testing.T) {
	n, _, e := parse.Parse("package a; import b; func f(x b.T) int { if x { return x.y[1:2] + -1; } else { z = \"s\"; } }")
	if e != api.OK {
		t.Fatal(e)
	}
	m := plain(n)
	if !show.Alike(n, m) || !show.Alike(m, n) || !show.Alike(n, n) || !show.Alike(api.Node{}, api.Node{At: 1}) {
		t.Error("places")
	}
	turns := []func(*api.Node){
		func(x *api.Node) { x.Kind++ }, func(x *api.Node) { x.Op++ }, func(x *api.Node) { x.N++ }, func(x *api.Node) { x.N += 1 << 32 }, func(x *api.Node) { x.N = math.MinInt64 },
		func(x *api.Node) { x.Pkg += "p" }, func(x *api.Node) { x.Text += "t" }, func(x *api.Node) { x.Text, x.Pkg = x.Pkg, x.Text+"." },
		func(x *api.Node) { x.Kids = append(slices.Clone(x.Kids), api.Node{}) },
		func(x *api.Node) { x.Kids = append([]api.Node{{}}, x.Kids...) },
	}
	var all []*api.Node
	eachNode(&m, func(part *api.Node) { all = append(all, part) })
	for i, part := range all {
		was := *part
		for j, turn := range turns {
			turn(part)
			if show.Alike(n, m) || show.Alike(m, n) {
				t.Errorf("node %d, turn %d", i, j)
			}
			*part = was
		}
		for at := range was.Kids {
			part.Kids = slices.Delete(slices.Clone(was.Kids), at, at+1)
			if show.Alike(n, m) || show.Alike(m, n) {
				t.Errorf("node %d without kid %d", i, at)
			}
		}
		part.Kids = slices.Clone(was.Kids)
		slices.Reverse(part.Kids)
		if len(part.Kids) > 1 && (show.Alike(n, m) || show.Alike(m, n)) {
			t.Errorf("node %d, kids the other way round", i)
		}
		*part = was
		part.At = i + 1000
		if !show.Alike(n, m) || !show.Alike(m, n) {
			t.Errorf("node %d, place", i)
		}
	}
}

// 6.1: trees that are no texts' are held against each other all the same; nil and empty lists are one.
func TestAlikeOthers(t *testing.T) {
	if !show.Alike(api.Node{Kids: []api.Node{}}, api.Node{}) || !show.Alike(api.Node{}, api.Node{Kids: make([]api.Node, 0, 3)}) {
		t.Error("empty lists")
	}
	for _, n := range []api.Node{{}, {Kind: -1}, {Kind: 99, Op: 5, N: -1, Text: "\x00", Pkg: "1"}} {
		if !show.Alike(n, n) || !show.Alike(file(n), file(n)) || show.Alike(n, api.Node{Kind: 7}) {
			t.Errorf("%v", n)
		}
	}
	wrap := func(n api.Node) api.Node { return api.Node{At: n.At + 1, Kids: []api.Node{n}} }
	deep, other := times(1<<16, name("x"), wrap), times(1<<16, name("y"), wrap)
	if !show.Alike(deep, times(1<<16, name("x"), wrap)) || show.Alike(deep, other) {
		t.Error("deep trees")
	}
	checkRefused(t, deep, api.ErrLong)
}

// What is handed in stays as it is, behind the lists' ends too; what is read there counts for nothing.
func TestHandedIn(t *testing.T) {
	n, _, _ := parse.Parse("package a; func f(x int) int { if x { return 1; } return x[1:2](3); }")
	spare := api.Node{Kind: 99, Text: "spare"}
	eachNode(&n, func(part *api.Node) {
		kids := append(slices.Clone(part.Kids), spare, spare)
		part.Kids = kids[:len(kids)-2]
	})
	was := copyOf(n)
	first := checkText(t, n)
	show.Alike(n, was)
	if !reflect.DeepEqual(n, was) {
		t.Error("turned")
	}
	eachNode(&n, func(part *api.Node) {
		for _, behind := range part.Kids[len(part.Kids) : len(part.Kids)+2] {
			if !reflect.DeepEqual(behind, spare) {
				t.Error("turned behind a list's end")
			}
		}
	})
	for i := range 3 {
		if s, e := show.Text(n); s != first || e != api.OK {
			t.Error("call " + strconv.Itoa(i))
		}
	}
}

func copyOf(n api.Node) api.Node {
	n.Kids = slices.Clone(n.Kids)
	for i := range n.Kids {
		n.Kids[i] = copyOf(n.Kids[i])
	}
	return n
}
