package parse_test

import (
	"fmt"
	"math"
	"reflect"
	"slices"
	"strings"
	"testing"
	"unsafe"

	"mortise/api"
	"mortise/lex"
	"mortise/parse"
)

// kindNames are the names of the nodes' kinds, by their numbers.
func kindNames() []string {
	return strings.Fields("- File Import Const Var Struct Field Iface Sig Func Method TypeVar Param TypeName Ptr SliceOf FuncOf Block Define Assign Do If For Break Continue Return Int Text Bool Nil Name Binary Unary Call Index Slice Sel Assert New Key List FuncLit MethodExpr")
}

// told is a tree as text, all fields that are not zero: its kind, its place (told from base on), :Text, /Pkg, #N, ~Op, (kids).
func told(n api.Node, base int) string {
	s := fmt.Sprintf("%s@%d", kindNames()[n.Kind], n.At-base)
	if n.Text != "" {
		s += ":" + n.Text
	}
	if n.Pkg != "" {
		s += "/" + n.Pkg
	}
	if n.N != 0 {
		s += fmt.Sprint("#", n.N)
	}
	if n.Op != 0 {
		s += fmt.Sprint("~", n.Op)
	}
	if len(n.Kids) == 0 {
		return s
	}
	kids := make([]string, len(n.Kids))
	for i, kid := range n.Kids {
		kids[i] = told(kid, base)
	}
	return s + "(" + strings.Join(kids, " ") + ")"
}

// brief is a text as it is told of: of a long one its beginning and its end.
func brief(s string) string {
	if len(s) > 400 {
		return s[:200] + " .. " + s[len(s)-200:]
	}
	return s
}

// tree is the tree of a text that has to be taken.
func tree(t *testing.T, s string) api.Node {
	t.Helper()
	n, at, e := parse.Parse(s)
	if e != api.OK || at != 0 || n.Kind != api.NFile {
		t.Fatalf("Parse(%q): kind %d, %d, %d, want a file, 0, 0", brief(s), n.Kind, at, e)
	}
	return n
}

// refuse holds that Parse refuses a text, and that nothing but the place stands beside the error.
func refuse(t *testing.T, s string, wantAt int, want api.Errno) {
	t.Helper()
	n, at, e := parse.Parse(s)
	if at != wantAt || e != want || !reflect.DeepEqual(n, api.Node{}) {
		t.Errorf("Parse(%q): kind %d, %d, %d, want none, %d, %d", brief(s), n.Kind, at, e, wantAt, want)
	}
}

const (
	aheadOfDecl = "package a;"
	aheadOfStat = "package a;func f(){"
	aheadOfExpr = "package a;var x int= "
	aheadOfType = "package a;var x "
)

// what is the part of a text told, and the text's other parts.
type what struct{ ahead, behind string }

func decls() what { return what{aheadOfDecl, ""} }
func stats() what { return what{aheadOfStat, "}"} }
func exprs() what { return what{aheadOfExpr, ";"} }
func types() what { return what{aheadOfType, ";"} }

// checkPart holds the tree of a part of a text, its places told from the part's beginning on, against what it has to be.
func checkPart(t *testing.T, in what, part, want string) {
	t.Helper()
	n := tree(t, in.ahead+part+in.behind).Kids[0]
	switch in {
	case stats():
		n = n.Kids[0].Kids[0]
	case exprs():
		n = n.Kids[1]
	case types():
		n = n.Kids[0]
	}
	if got := told(n, len(in.ahead)); got != want {
		t.Errorf("of %q:\n%s, want\n%s", part, got, want)
	}
}

// refusePart holds that a part of a text is refused, at a place told from its beginning on.
func refusePart(t *testing.T, in what, part string, at int) {
	t.Helper()
	refuse(t, in.ahead+part+in.behind, len(in.ahead)+at, api.ErrText)
}

// 5.1: the signs of operations of two numbers, and how strongly each binds.
func TestSign(t *testing.T) {
	strengths := []string{"", "||", "&&", "== != < <= > >=", "+ -", "* / %"}
	ops := map[int]string{api.Add: "+", api.Sub: "-", api.Mul: "*", api.Div: "/", api.Rem: "%", api.Eq: "==", api.Ne: "!=", api.Lt: "<", api.Le: "<=", api.Gt: ">", api.Ge: ">=", api.AndAnd: "&&", api.OrOr: "||"}
	for op := -300; op <= 300; op++ {
		want, strength := ops[op], 0
		for i, signs := range strengths {
			for _, sign := range strings.Fields(signs) {
				if sign == want {
					strength = i
				}
			}
		}
		if got, binds := parse.Sign(op); got != want || binds != strength {
			t.Errorf("Sign(%d) = %q, %d, want %q, %d", op, got, binds, want, strength)
		}
	}
	for _, op := range []int{math.MinInt, math.MaxInt, 1 << 32, 1<<32 + api.Add, api.Add - 1<<32, api.And, api.Or, api.Xor, api.Shl, api.Shr, 0, api.OrOr + 1} {
		if got, binds := parse.Sign(op); got != "" || binds != 0 {
			t.Errorf("Sign(%d) = %q, %d, want none", op, got, binds)
		}
	}
}

// 5.2: the chapter's examples, the first one field by field.
func TestExamples(t *testing.T) {
	ofInt := func(at int) api.Node { return api.Node{Kind: api.NTypeName, Text: "int", At: at} }
	sum := api.Node{Kind: api.NBinary, Op: api.Add, At: 40, Kids: []api.Node{
		{Kind: api.NName, Text: "x", At: 38}, {Kind: api.NInt, N: 1, At: 42}}}
	body := api.Node{Kind: api.NBlock, At: 29, Kids: []api.Node{{Kind: api.NReturn, At: 31, Kids: []api.Node{sum}}}}
	f := api.Node{Kind: api.NFunc, N: 1, Text: "f", At: 16, Kids: []api.Node{
		{Kind: api.NParam, Text: "x", At: 18, Kids: []api.Node{ofInt(20)}}, ofInt(25), body}}
	want := api.Node{Kind: api.NFile, Text: "a", Kids: []api.Node{f}}
	if got := tree(t, "package a; func f(x int) int { return x + 1; }"); !reflect.DeepEqual(got, want) {
		t.Errorf("got %s, want %s", told(got, 0), told(want, 0))
	}
	refuse(t, "package a", 9, api.ErrText)
	refuse(t, "package a; var x int = 1 +;", 26, api.ErrText)
}

// 5.2: files, with imports ahead of all that is declared.
func TestFiles(t *testing.T) {
	for _, c := range []struct{ s, want string }{
		{"package a;", "File@0:a"},
		{"// a\n\tpackage // b\nmain ; // c", "File@6:main"},
		{"package a;import b;", "File@0:a(Import@17:b)"},
		{"package a;import b;import c;const d=1;var e int;const f=2;", "File@0:a(Import@17:b Import@26:c Const@34:d#1 Var@42:e(TypeName@44:int) Const@54:f#2)"},
		{"package a;func f(){}func g(){}type T struct{}type I interface{}func(t*T)m(){}", "File@0:a(Func@15:f(Block@18) Func@25:g(Block@28) Struct@35:T Iface@50:I Method@72:m(Param@68:t(Ptr@69(TypeName@70:T)) Block@75))"},
	} {
		if got := told(tree(t, c.s), 0); got != c.want {
			t.Errorf("of %q:\n%s, want\n%s", c.s, got, c.want)
		}
	}
	for _, c := range []struct {
		s  string
		at int
	}{
		{"", 0}, {"  ", 2}, {"// package a;", 13}, {"package", 7}, {"package ", 8}, {"package;", 7}, {"package int;", 8}, {"package 1;", 8}, {`package "a";`, 8}, {"package a.b;", 9}, {"package a import b;", 10}, {"packages a;", 0},
		{"import b;", 0}, {";package a;", 0}, {"package a;;", 10}, {"package a;package b;", 10}, {"package a;import b", 18}, {"package a;import;", 16}, {`package a;import "b";`, 17}, {"package a;import b,c;", 18}, {"package a;import b.c;", 18},
		{"package a;const b=1;import c;", 20}, {"package a;func f(){}import c;", 20}, {"package a;type T struct{}import c;", 25}, {"package a;var b int;import c;", 20},
		{"package a;x", 10}, {"package a;x=1;", 10}, {"package a;f();", 10}, {"package a;{}", 10}, {"package a;}", 10}, {"package a;1", 10}, {`package a;"func"`, 10}, {"package a;return;", 10}, {"package a;if", 10}, {"package a;func f(){};", 20},
	} {
		refuse(t, c.s, c.at, api.ErrText)
	}
}

// 5.2: constants, whose N has its sign.
func TestConstants(t *testing.T) {
	for _, c := range []struct{ s, want string }{
		{"const c=0;", "Const@6:c"},
		{"const c=-0;", "Const@6:c"},
		{"const C = 17 ;", "Const@6:C#17"},
		{"const c=- 17;", "Const@6:c#-17"},
		{"const c=9223372036854775807;", "Const@6:c#9223372036854775807"},
		{"const c=-9223372036854775807;", "Const@6:c#-9223372036854775807"},
	} {
		checkPart(t, decls(), c.s, c.want)
	}
	for _, c := range []struct {
		s  string
		at int
	}{
		{"const;", 5}, {"const c;", 7}, {"const c int=1;", 8}, {"const c:=1;", 7}, {"const c=;", 8}, {"const c=--1;", 9}, {"const c=!1;", 8}, {"const c=x;", 8}, {"const c=true;", 8}, {`const c="1";`, 8}, {"const c=(1);", 8}, {"const c=1+1;", 9}, {"const c=1", 9}, {"const c=-", 9}, {"const c=-;", 9}, {"const c,d=1;", 7}, {"const int=1;", 6}, {"const c==1;", 7}, {"const (c=1;", 6},
	} {
		refusePart(t, decls(), c.s, c.at)
	}
}

// 5.2: variables, declared or as statements.
func TestVariables(t *testing.T) {
	for _, c := range []struct{ s, want string }{
		{"var x int;", "Var@4:x(TypeName@6:int)"},
		{"var x int=1;", "Var@4:x(TypeName@6:int Int@10#1)"},
		{"var x p.T = x == y;", "Var@4:x(TypeName@6:T/p Binary@14~11(Name@12:x Name@17:y))"},
		{"var x func()int=f;", "Var@4:x(FuncOf@6#1(TypeName@12:int) Name@16:f)"},
		{"var x func()=f;", "Var@4:x(FuncOf@6 Name@13:f)"},
	} {
		checkPart(t, decls(), c.s, c.want)
		checkPart(t, stats(), c.s, c.want)
	}
	for _, c := range []struct {
		s  string
		at int
	}{
		{"var;", 3}, {"var x;", 5}, {"var x=1;", 5}, {"var x:=1;", 5}, {"var x,y int;", 5}, {"var x int,", 9}, {"var x int=;", 10}, {"var x int 1;", 10}, {"var x int=1,2;", 11}, {"var x int=1=2;", 11}, {"var x int:=1;", 9}, {"var int int;", 4}, {"var 1 int;", 4}, {"var x 1;", 6}, {"var x int==1;", 9},
	} {
		refusePart(t, decls(), c.s, c.at)
		refusePart(t, stats(), c.s, c.at)
	}
}

// 5.2: structs and interfaces.
func TestDeclaredTypes(t *testing.T) {
	for _, c := range []struct{ s, want string }{
		{"type T struct{}", "Struct@5:T"},
		{"type T struct{x int;}", "Struct@5:T(Field@14:x(TypeName@16:int))"},
		{"type T struct{a *T;b []p.U;f func(T)T;}", "Struct@5:T(Field@14:a(Ptr@16(TypeName@17:T)) Field@19:b(SliceOf@21(TypeName@23:U/p)) Field@27:f(FuncOf@29#1(TypeName@34:T TypeName@36:T)))"},
		{"type I interface{}", "Iface@5:I"},
		{"type I interface{m();}", "Iface@5:I(Sig@17:m)"},
		{"type I interface{m(int,p.T)*T;n()func();o([]bool);}", "Iface@5:I(Sig@17:m#1(TypeName@19:int TypeName@23:T/p Ptr@27(TypeName@28:T)) Sig@30:n#1(FuncOf@33) Sig@40:o(SliceOf@42(TypeName@44:bool)))"},
	} {
		checkPart(t, decls(), c.s, c.want)
	}
	for _, c := range []struct {
		s  string
		at int
	}{
		{"type;", 4}, {"type T;", 6}, {"type T int;", 7}, {"type T *U;", 7}, {"type T []int;", 7}, {"type T func();", 7}, {"type T = int;", 7}, {"type T[A any] struct{}", 6}, {"type int struct{}", 5}, {"type T structs{}", 7}, {`type T "struct"{}`, 7},
		{"type T struct;", 13}, {"type T struct()", 13}, {"type T struct{", 14}, {"type T struct{x int}", 19}, {"type T struct{x int,", 19}, {"type T struct{x;}", 15}, {"type T struct{x,y int;}", 15}, {"type T struct{int;}", 14}, {"type T struct{;}", 14}, {"type T struct{x int;;}", 20}, {"type T struct{x int=1;}", 19}, {"type T struct{m();}", 15}, {"type T struct{};", 15},
		{"type I interface;", 16}, {"type I interface{m()}", 20}, {"type I interface{m;}", 18}, {"type I interface{m int;}", 19}, {"type I interface{m(int,);}", 23}, {"type I interface{m(,);}", 19}, {"type I interface{m(x int);}", 21}, {"type I interface{m()int bool;}", 24}, {"type I interface{m()(int);}", 20}, {"type I interface{m(){}}", 20}, {"type I interface{func m();}", 17}, {"type I interface{J;}", 18}, {"type I interface{};", 18}, {"type I interface{m[A any]();}", 18},
	} {
		refusePart(t, decls(), c.s, c.at)
	}
}

// 5.2: functions and methods.
func TestFunctions(t *testing.T) {
	for _, c := range []struct{ s, want string }{
		{"func f(){}", "Func@5:f(Block@8)"},
		{"func f(a int,b T)bool{}", "Func@5:f#1(Param@7:a(TypeName@9:int) Param@13:b(TypeName@15:T) TypeName@17:bool Block@21)"},
		{"func f()func()func()int{}", "Func@5:f#1(FuncOf@8#1(FuncOf@14#1(TypeName@20:int)) Block@23)"},
		{"func f()[]func(){}", "Func@5:f#1(SliceOf@8(FuncOf@10) Block@16)"},
		{"func f[A any](){}", "Func@5:f(TypeVar@7:A Block@15)"},
		{"func f[A comparable,B p.I,C J,D any](a A)D{}", "Func@5:f#1(TypeVar@7:A#1 TypeVar@20:B#2(TypeName@22:I/p) TypeVar@26:C#2(TypeName@28:J) TypeVar@30:D Param@37:a(TypeName@39:A) TypeName@41:D Block@42)"},
		{"func(t*T)m(){}", "Method@9:m(Param@5:t(Ptr@6(TypeName@7:T)) Block@12)"},
		{"func (t *T) m(a int) *T { return t; }", "Method@12:m#1(Param@6:t(Ptr@8(TypeName@9:T)) Param@14:a(TypeName@16:int) Ptr@21(TypeName@22:T) Block@24(Return@26(Name@33:t)))"},
	} {
		checkPart(t, decls(), c.s, c.want)
	}
	for _, c := range []struct {
		s  string
		at int
	}{
		{"func", 4}, {"func f", 6}, {"func f;", 6}, {"func f{}", 6}, {"func f()", 8}, {"func f();", 8}, {"func f({}", 7}, {"func f(a){}", 8}, {"func f(a,b int){}", 8}, {"func f(int){}", 7}, {"func f(a int,){}", 13}, {"func f(,){}", 7}, {"func f(a int b int){}", 13}, {"func f(a int;b int){}", 12}, {"func f()int", 11}, {"func f()int bool{}", 12}, {"func f()(int){}", 8}, {"func f(){", 9}, {"func f(){}}", 10}, {"func len(){}", 5}, {"func f(g func(){", 15}, {"func f(){)", 9},
		{"func f[](){}", 7}, {"func f[A](){}", 8}, {"func f[A int](){}", 9}, {"func f[A any,](){}", 13}, {"func f[A *T](){}", 9}, {"func f[A []int](){}", 9}, {"func f[A any B any](){}", 13}, {"func f[A any;", 12}, {"func f[A p.](){}", 11}, {"func f[A any]{}", 13}, {"func f[any](){}", 7}, {"func f[A any)(){}", 12}, {"func f[A B C](){}", 11}, {"func f[A any.I](){}", 12}, {"func f[A I][B J](){}", 11},
		{"func()m(){}", 5}, {"func(t T)m(){}", 7}, {"func(*T)m(){}", 5}, {"func(t*p.T)m(){}", 8}, {"func(t*int)m(){}", 7}, {"func(t**T)m(){}", 7}, {"func(t*T){}", 9}, {"func(t*T,u*T)m(){}", 8}, {"func(t*T)m[A any](){}", 10}, {"func(t*T)m{}", 10}, {"func(t*T)(){}", 9}, {"func(t*T)m();", 12}, {"func(t*[]T)m(){}", 7}, {"func(t*T]m(){}", 8}, {"func(1*T)m(){}", 5},
	} {
		refusePart(t, decls(), c.s, c.at)
	}
}

// 5.2: types; a result's is there if the token behind the ) begins one.
func TestTypes(t *testing.T) {
	for _, c := range []struct{ s, want string }{
		{"int", "TypeName@0:int"},
		{"bool", "TypeName@0:bool"},
		{"string", "TypeName@0:string"},
		{"T", "TypeName@0:T"},
		{"p . T", "TypeName@0:T/p"},
		{"*T", "Ptr@0(TypeName@1:T)"},
		{"* p.T", "Ptr@0(TypeName@2:T/p)"},
		{"[]int", "SliceOf@0(TypeName@2:int)"},
		{"[ ] [] *T", "SliceOf@0(SliceOf@4(Ptr@7(TypeName@8:T)))"},
		{"func()", "FuncOf@0"},
		{"func(int)", "FuncOf@0(TypeName@5:int)"},
		{"func()int", "FuncOf@0#1(TypeName@6:int)"},
		{"func()bool", "FuncOf@0#1(TypeName@6:bool)"},
		{"func()string", "FuncOf@0#1(TypeName@6:string)"},
		{"func()T", "FuncOf@0#1(TypeName@6:T)"},
		{"func()p.T", "FuncOf@0#1(TypeName@6:T/p)"},
		{"func()*T", "FuncOf@0#1(Ptr@6(TypeName@7:T))"},
		{"func()[]T", "FuncOf@0#1(SliceOf@6(TypeName@8:T))"},
		{"func()func()", "FuncOf@0#1(FuncOf@6)"},
		{"func(int,func(T)T,*p.T)[]func()", "FuncOf@0#1(TypeName@5:int FuncOf@9#1(TypeName@14:T TypeName@16:T) Ptr@18(TypeName@19:T/p) SliceOf@23(FuncOf@25))"},
	} {
		checkPart(t, types(), c.s, c.want)
	}
	for _, c := range []struct {
		s  string
		at int
	}{
		{"", 0}, {"*", 1}, {"**T", 1}, {"*int", 1}, {"*[]int", 1}, {"*func()", 1}, {"[", 1}, {"[]", 2}, {"[3]int", 1}, {"[][", 3}, {"[)int", 1}, {"p.", 2}, {"p.int", 2}, {"p.q.T", 3}, {"int.T", 3}, {"(int)", 0}, {"any", 0}, {"comparable", 0}, {"struct{}", 0}, {"interface{}", 0}, {"nil", 0}, {"len", 0}, {`"int"`, 0}, {"1", 0},
		{"func", 4}, {"func f()", 5}, {"func(", 5}, {"func(int", 8}, {"func(int,)", 9}, {"func(,)", 5}, {"func(a int)", 7}, {"func()(int)", 6}, {"func()[", 7}, {"func()*", 7}, {"func()int int", 10}, {"func()1", 6}, {"func(]", 5}, {"T[int]", 1}, {"func()any", 6},
	} {
		refusePart(t, types(), c.s, c.at)
	}
}

// 5.2: statements.
func TestStatements(t *testing.T) {
	for _, c := range []struct{ s, want string }{
		{"x:=1;", "Define@0:x(Int@3#1)"},
		{"x := x ;", "Define@0:x(Name@5:x)"},
		{"x=1;", "Assign@1(Name@0:x Int@2#1)"},
		{"a.b [i] = -c;", "Assign@8(Index@4(Sel@1:b(Name@0:a) Name@5:i) Unary@10~1(Name@11:c))"},
		{"1=2;", "Assign@1(Int@0#1 Int@2#2)"},
		{"x==y=z==x;", "Assign@4(Binary@1~11(Name@0:x Name@3:y) Binary@6~11(Name@5:z Name@8:x))"},
		{"f() ;", "Do@4(Call@1(Name@0:f))"},
		{"x;", "Do@1(Name@0:x)"},
		{"1+2;", "Do@3(Binary@1~1(Int@0#1 Int@2#2))"},
		{"func(){}();", "Do@10(Call@8(FuncLit@0(Block@6)))"},
		{"if a{}", "If@0(Name@3:a Block@4)"},
		{"if a{}else{}", "If@0(Name@3:a Block@4 Block@10)"},
		{"if a{b;}else if c{d;}else if e{}", "If@0(Name@3:a Block@4(Do@6(Name@5:b)) If@13(Name@16:c Block@17(Do@19(Name@18:d)) If@26(Name@29:e Block@30)))"},
		{"if &T{}{}else{if a{}}", "If@0(New@3(TypeName@4:T) Block@7 Block@13(If@14(Name@17:a Block@18)))"},
		{"if T{}{}", "If@0(Name@3:T Block@4)"},
		{"if []int{}{}", "If@0(List@3(TypeName@5:int) Block@10)"},
		{"if func()int{}{}", "If@0(FuncLit@3#1(TypeName@9:int Block@12) Block@14)"},
		{"if a{if b{}else{}}", "If@0(Name@3:a Block@4(If@5(Name@8:b Block@9 Block@15)))"},
		{"for{}", "For@0(Block@3)"},
		{"for a{}", "For@0#1(Name@4:a Block@5)"},
		{"for &T{}{break;continue ;}", "For@0#1(New@4(TypeName@5:T) Block@8(Break@9 Continue@15))"},
		{"break;", "Break@0"},
		{"continue;", "Continue@0"},
		{"return;", "Return@0"},
		{"return a+b;", "Return@0(Binary@8~1(Name@7:a Name@9:b))"},
		{"{}", "Block@0"},
		{"{{x;}{}y;}", "Block@0(Block@1(Do@3(Name@2:x)) Block@5 Do@8(Name@7:y))"},
	} {
		checkPart(t, stats(), c.s, c.want)
	}
	for _, c := range []struct {
		s  string
		at int
	}{
		{";", 0}, {"x:=1", 4}, {"x:=;", 3}, {"x :=1:=2;", 5}, {"x,y:=1;", 1}, {"x.y:=1;", 3}, {"(x):=1;", 3}, {"1:=1;", 1}, {"len:=1;", 3}, {"x:=var;", 3}, {"x=;", 2}, {"x=1", 3}, {"x=y=z;", 3}, {"x", 1}, {"x y;", 2}, {"x:", 1}, {"f()", 3}, {"f():=1;", 3}, {"x,y=1;", 1}, {"x++;", 2}, {"x+=1;", 2}, {"=1;", 0},
		{"if{}", 2}, {"if a", 4}, {"if a;", 4}, {"if a b;", 5}, {"if a{}else", 10}, {"if a{}else b;", 11}, {"if a{}else;", 10}, {"if a{}else for{}", 11}, {"else{}", 0}, {"if a{}else{}else{}", 12}, {"if x:=1{}", 4}, {"if a=b{}", 4}, {"if(a)else{}", 5}, {"if a{};", 6},
		{"for", 3}, {"for;", 3}, {"for a", 5}, {"for a;", 5}, {"for a;b;c{}", 5}, {"for x:=1{}", 5}, {"for a b{}", 6}, {"for{};", 5},
		{"break", 5}, {"break x;", 6}, {"continue", 8}, {"continue 1;", 9}, {"return", 6}, {"return a", 8}, {"return a,b;", 8}, {"return var;", 7}, {"return{}", 6}, {"return a=b;", 8},
		{"{", 2}, {"{};", 2}, {"}", 1}, {")", 0}, {"]", 0}, {"const c=1;", 0}, {"type T struct{}", 0}, {"func f(){}", 5}, {"import a;", 0}, {"package a;", 0}, {"goto x;", 5}, {"var x int", 9}, {"int;", 0}, {"else", 0}, {"any", 0}, {"struct", 0},
	} {
		refusePart(t, stats(), c.s, c.at)
	}
}

// 5.2: expressions that stand first.
func TestFirstExpressions(t *testing.T) {
	for _, c := range []struct{ s, want string }{
		{"0", "Int@0"},
		{"9223372036854775807", "Int@0#9223372036854775807"},
		{`""`, "Text@0"},
		{`"a\n\"\\"`, "Text@0:a\n\"\\"},
		{"true", "Bool@0#1"},
		{"false", "Bool@0"},
		{"nil", "Nil@0"},
		{"x", "Name@0:x"},
		{"(x)", "Name@1:x"},
		{"( ((1) ))", "Int@4#1"},
		{"(a+b)", "Binary@2~1(Name@1:a Name@3:b)"},
		{"(*T).m", "MethodExpr@0:m(TypeName@2:T)"},
		{"( * p.T ) . m", "MethodExpr@0:m(TypeName@4:T/p)"},
		{"((*T).m)", "MethodExpr@1:m(TypeName@3:T)"},
		{"(*T).m(t).n", "Sel@9:n(Call@6(MethodExpr@0:m(TypeName@2:T) Name@7:t))"},
		{"[]int{}", "List@0(TypeName@2:int)"},
		{"[]p.T{a,b+1,nil}", "List@0(TypeName@2:T/p Name@6:a Binary@9~1(Name@8:b Int@10#1) Nil@12)"},
		{"[][]func(){}", "List@0(SliceOf@2(FuncOf@4))"},
		{"[]func()T{f}", "List@0(FuncOf@2#1(TypeName@8:T) Name@10:f)"},
		{"func(){}", "FuncLit@0(Block@6)"},
		{"func(a T,b int)[]T{return a;}", "FuncLit@0#1(Param@5:a(TypeName@7:T) Param@9:b(TypeName@11:int) SliceOf@15(TypeName@17:T) Block@18(Return@19(Name@26:a)))"},
		{"func()func()int{}", "FuncLit@0#1(FuncOf@6#1(TypeName@12:int) Block@15)"},
		{"func()func(){}", "FuncLit@0#1(FuncOf@6 Block@12)"},
		{"len(s)", "Call@3(Name@0:len Name@4:s)"},
		{"append(s,1,2)", "Call@6(Name@0:append Name@7:s Int@9#1 Int@11#2)"},
		{"panic ()", "Call@6(Name@0:panic)"},
		{"put(1)", "Call@3(Name@0:put Int@4#1)"},
		{"get()", "Call@3(Name@0:get)"},
		{"make([]int,n+1)", "Call@4(Name@0:make SliceOf@5(TypeName@7:int) Binary@12~1(Name@11:n Int@13#1))"},
		{"make(func(),1)", "Call@4(Name@0:make FuncOf@5 Int@12#1)"},
		{"make(T,1)", "Call@4(Name@0:make TypeName@5:T Int@7#1)"},
		{"&T{}", "New@0(TypeName@1:T)"},
		{"& p.T{a:1,b:-2}", "New@0(TypeName@2:T/p Key@6:a(Int@8#1) Key@10:b(Unary@12~1(Int@13#2)))"},
	} {
		checkPart(t, exprs(), c.s, c.want)
	}
	for _, c := range []struct {
		s  string
		at int
	}{
		{"", 0}, {")", 0}, {"()", 1}, {"(", 1}, {"(x", 2}, {"(x]", 2}, {"(x,y)", 2}, {"x)", 1}, {"*x", 0}, {"+x", 0}, {"int", 0}, {"int(x)", 0}, {"string", 0}, {"any", 0}, {"var", 0}, {"if", 0}, {"return", 0}, {"{", 0}, {".x", 0}, {":", 0}, {"=", 0}, {",", 0}, {"&&", 0}, {"=1", 0}, {"struct{}", 0},
		{"(*T)", 4}, {"(*T)m", 4}, {"(*T).", 5}, {"(*T).1", 5}, {"(*T)(x)", 4}, {"(*int).m", 2}, {"(**T).m", 2}, {"(*T+1)", 3}, {"(*[]T).m", 2}, {"(*)", 2}, {"(*T].m", 3}, {"(*T).(U)", 5}, {"(*p.)", 4},
		{"[]int", 5}, {"[]int(1)", 5}, {"[]", 2}, {"[1]int{}", 1}, {"[x]", 1}, {"[]int{1,}", 8}, {"[]int{,}", 6}, {"[]int{1 2}", 8}, {"[]int{1;2}", 7}, {"[]int{1", 7}, {"[]int{1)", 7}, {"[]int{a:1}", 7}, {"[]1{}", 2}, {"[]struct{}", 2}, {"[]*T", 4},
		{"func", 4}, {"func f(){}", 5}, {"func()", 6}, {"func()int", 9}, {"func(int){}", 5}, {"func(a){}", 6}, {"func(a,b int){}", 6}, {"func(a int,){}", 11}, {"func()(int){}", 6}, {"func[A any](){}", 4}, {"func(){", 7}, {"func(){x}", 8},
		{"len", 3}, {"append", 6}, {"panic", 5}, {"put", 3}, {"get", 3}, {"make", 4}, {"len.x", 3}, {"len[0]", 3}, {"(len)(x)", 4}, {"len(,)", 4}, {"len(x,)", 6}, {"len(x y)", 6}, {"len(int)", 4}, {"get(", 4}, {"put(1]", 5}, {"len+1", 3}, {"print(x", 7},
		{"make()", 5}, {"make([]int)", 10}, {"make([]int,)", 11}, {"make(3,3)", 5}, {"make([]int,1,2)", 12}, {"make([]int;1)", 10}, {"make(len,1)", 5}, {"make([]int,1", 12}, {"make(x[0],1)", 6}, {"make([]int{},1)", 10},
		{"&x", 2}, {"&T()", 2}, {"&(T{})", 1}, {"&int{}", 1}, {"&[]int{}", 1}, {"&*T{}", 1}, {"&T{1}", 3}, {"&T{a}", 4}, {"&T{a=1}", 4}, {"&T{a:}", 5}, {"&T{a:1,}", 7}, {"&T{,}", 3}, {"&T{a:1;b:2}", 6}, {"&T{a:1", 6}, {"&T{a:1)", 6}, {"&T{a:=1}", 4}, {"&p.q.T{}", 4}, {"&T{1:1}", 3}, {"&&T{}", 0}, {"&T{len:1}", 3}, {"&T{(a):1}", 3}, {"& &T{}", 2}, {"&-x", 1},
	} {
		refusePart(t, exprs(), c.s, c.at)
	}
}

// 5.2: what stands behind an expression, as often as it likes.
func TestBehind(t *testing.T) {
	for _, c := range []struct{ s, want string }{
		{"f()", "Call@1(Name@0:f)"},
		{"f(a,b)", "Call@1(Name@0:f Name@2:a Name@4:b)"},
		{"f(-a)(b)()", "Call@8(Call@5(Call@1(Name@0:f Unary@2~1(Name@3:a)) Name@6:b))"},
		{"s[i]", "Index@1(Name@0:s Name@2:i)"},
		{"s[i+1][j]", "Index@6(Index@1(Name@0:s Binary@3~1(Name@2:i Int@4#1)) Name@7:j)"},
		{"s[:]", "Slice@1(Name@0:s)"},
		{"s[1:]", "Slice@1#1(Name@0:s Int@2#1)"},
		{"s[:2]", "Slice@1#2(Name@0:s Int@3#2)"},
		{"s[1:2]", "Slice@1#3(Name@0:s Int@2#1 Int@4#2)"},
		{"s[:][:]", "Slice@4(Slice@1(Name@0:s))"},
		{"a.b", "Sel@1:b(Name@0:a)"},
		{"a.b.c", "Sel@3:c(Sel@1:b(Name@0:a))"},
		{"a.(T)", "Assert@1(Name@0:a TypeName@3:T)"},
		{"a.(func())", "Assert@1(Name@0:a FuncOf@3)"},
		{"a.([]*p.T).b", "Sel@10:b(Assert@1(Name@0:a SliceOf@3(Ptr@5(TypeName@6:T/p))))"},
		{"a . b [ c ] ( d ) . ( T )", "Assert@18(Call@12(Index@6(Sel@2:b(Name@0:a) Name@8:c) Name@14:d) TypeName@22:T)"},
		{`"abc"[1]`, "Index@5(Text@0:abc Int@6#1)"},
		{"1()", "Call@1(Int@0#1)"},
		{"nil.x", "Sel@3:x(Nil@0)"},
		{"true[0]", "Index@4(Bool@0#1 Int@5)"},
		{"(a+b).c", "Sel@5:c(Binary@2~1(Name@1:a Name@3:b))"},
		{"[]int{1}[0]", "Index@8(List@0(TypeName@2:int Int@6#1) Int@9)"},
		{"func(){}()", "Call@8(FuncLit@0(Block@6))"},
		{"make(T,1)[0]", "Index@9(Call@4(Name@0:make TypeName@5:T Int@7#1) Int@10)"},
		{"len(s).x", "Sel@6:x(Call@3(Name@0:len Name@4:s))"},
		{"append(s)[:1]", "Slice@9#2(Call@6(Name@0:append Name@7:s) Int@11#1)"},
		{"(&T{}).x", "Sel@6:x(New@1(TypeName@2:T))"},
	} {
		checkPart(t, exprs(), c.s, c.want)
	}
	for _, c := range []struct {
		s  string
		at int
	}{
		{"f(,)", 2}, {"f(a,)", 4}, {"f(a b)", 4}, {"f(a;b)", 3}, {"f(a", 3}, {"f(a]", 3}, {"f(int)", 2}, {"f(a:=1)", 3}, {"f(a=1)", 3},
		{"s[]", 2}, {"s[,]", 2}, {"s[1,2]", 3}, {"s[1", 3}, {"s[1)", 3}, {"s[1:2:3]", 5}, {"s[::]", 3}, {"s[:", 3}, {"s[1:", 4}, {"s[:1", 4}, {"s[:)", 3}, {"s[a:=1]", 3}, {"s[int]", 2}, {"s[1 2]", 4},
		{"a.", 2}, {"a.1", 2}, {"a.int", 2}, {"a.len", 2}, {"a..b", 2}, {"a.()", 3}, {"a.(1)", 3}, {"a.(T", 4}, {"a.(T,U)", 4}, {"a.(T]", 4}, {"a.(type)", 3}, {"a.[0]", 2}, {`a."b"`, 2}, {"a.(*int)", 4},
		{"&T{}.x", 4}, {"&T{}[0]", 4}, {"&T{}()", 4}, {"-&T{}.x", 5}, {"x{}", 1}, {"x!", 1}, {"x&y", 1}, {"a b", 2}, {"1 1", 2}, {`"a""b"`, 3}, {"f()g", 3}, {"s[1]x", 4}, {"a.(T)x", 5}, {"a:b", 1},
	} {
		refusePart(t, exprs(), c.s, c.at)
	}
}

// 5.2: the signs of one operand, which bind more strongly than those of two, and less than what stands behind.
func TestUnary(t *testing.T) {
	for _, c := range []struct{ s, want string }{
		{"-x", "Unary@0~1(Name@1:x)"},
		{"!x", "Unary@0~3(Name@1:x)"},
		{"-1", "Unary@0~1(Int@1#1)"},
		{"--!-x", "Unary@0~1(Unary@1~1(Unary@2~3(Unary@3~1(Name@4:x))))"},
		{"-x.y[0]()", "Unary@0~1(Call@7(Index@4(Sel@2:y(Name@1:x) Int@5)))"},
		{"(-x).y", "Sel@4:y(Unary@1~1(Name@2:x))"},
		{"-x+y", "Binary@2~1(Unary@0~1(Name@1:x) Name@3:y)"},
		{"x- -y", "Binary@1~2(Name@0:x Unary@3~1(Name@4:y))"},
		{"x--y", "Binary@1~2(Name@0:x Unary@2~1(Name@3:y))"},
		{"!x==y", "Binary@2~11(Unary@0~3(Name@1:x) Name@4:y)"},
		{"!(x==y)", "Unary@0~3(Binary@3~11(Name@2:x Name@5:y))"},
		{"-&T{}", "Unary@0~1(New@1(TypeName@2:T))"},
		{"x*&T{}", "Binary@1~3(Name@0:x New@2(TypeName@3:T))"},
	} {
		checkPart(t, exprs(), c.s, c.want)
	}
	for _, c := range []struct {
		s  string
		at int
	}{
		{"-", 1}, {"!", 1}, {"&", 1}, {"- +x", 2}, {"-)", 1}, {"!=x", 0}, {"-int", 1}, {"!!", 2}, {"-*x", 1},
	} {
		refusePart(t, exprs(), c.s, c.at)
	}
}

// signs are the operations of two operands by their signs, with the strengths that the grammar gives them.
func signs() []struct {
	sign         string
	op, strength int
} {
	return []struct {
		sign         string
		op, strength int
	}{{"||", api.OrOr, 1}, {"&&", api.AndAnd, 2}, {"==", api.Eq, 3}, {"!=", api.Ne, 3}, {"<", api.Lt, 3}, {"<=", api.Le, 3}, {">", api.Gt, 3}, {">=", api.Ge, 3}, {"+", api.Add, 4}, {"-", api.Sub, 4}, {"*", api.Mul, 5}, {"/", api.Div, 5}, {"%", api.Rem, 5}}
}

// 5.2: how signs bind, each with each, and three of them.
func TestBinary(t *testing.T) {
	for _, one := range signs() {
		checkPart(t, exprs(), "a "+one.sign+" b", fmt.Sprintf("Binary@2~%d(Name@0:a Name@%d:b)", one.op, 3+len(one.sign)))
		refusePart(t, exprs(), "a "+one.sign, 2+len(one.sign))
		if one.sign != "-" {
			refusePart(t, exprs(), one.sign+" a", 0)
			refusePart(t, exprs(), "a + "+one.sign+" a", 4)
			refusePart(t, exprs(), "(a "+one.sign+" "+one.sign+" a)", 4+len(one.sign))
		}
		for _, two := range signs() {
			s := "a " + one.sign + " b " + two.sign + " c"
			first, second := 2, 5+len(one.sign)
			b, c := 3+len(one.sign), 6+len(one.sign)+len(two.sign)
			want := fmt.Sprintf("Binary@%d~%d(Binary@%d~%d(Name@0:a Name@%d:b) Name@%d:c)", second, two.op, first, one.op, b, c)
			if two.strength > one.strength {
				want = fmt.Sprintf("Binary@%d~%d(Name@0:a Binary@%d~%d(Name@%d:b Name@%d:c))", first, one.op, second, two.op, b, c)
			}
			checkPart(t, exprs(), s, want)
		}
	}
	for _, c := range []struct{ s, want string }{
		{"a-b-c-d", "Binary@5~2(Binary@3~2(Binary@1~2(Name@0:a Name@2:b) Name@4:c) Name@6:d)"},
		{"a-(b-c)-d", "Binary@7~2(Binary@1~2(Name@0:a Binary@4~2(Name@3:b Name@5:c)) Name@8:d)"},
		{"a<b+c*d", "Binary@1~13(Name@0:a Binary@3~1(Name@2:b Binary@5~3(Name@4:c Name@6:d)))"},
		{"a*b+c<d", "Binary@5~13(Binary@3~1(Binary@1~3(Name@0:a Name@2:b) Name@4:c) Name@6:d)"},
		{"a||b&&c||d", "Binary@7~18(Binary@1~18(Name@0:a Binary@4~17(Name@3:b Name@6:c)) Name@9:d)"},
		{"a<b==c>d", "Binary@6~15(Binary@3~11(Binary@1~13(Name@0:a Name@2:b) Name@5:c) Name@7:d)"},
		{"a+b<c&&d*e", "Binary@5~17(Binary@3~13(Binary@1~1(Name@0:a Name@2:b) Name@4:c) Binary@8~3(Name@7:d Name@9:e))"},
		{"(a+b)*(c-d)", "Binary@5~3(Binary@2~1(Name@1:a Name@3:b) Binary@8~2(Name@7:c Name@9:d))"},
		{"a*-b%c", "Binary@4~5(Binary@1~3(Name@0:a Unary@2~1(Name@3:b)) Name@5:c)"},
		{"f(a+b*c)+d", "Binary@8~1(Call@1(Name@0:f Binary@3~1(Name@2:a Binary@5~3(Name@4:b Name@6:c))) Name@9:d)"},
	} {
		checkPart(t, exprs(), c.s, c.want)
	}
	for _, c := range []struct {
		s  string
		at int
	}{
		{"a+", 2}, {"a+)", 2}, {"a+*b", 2}, {"a*/b", 2}, {"a&b", 1}, {"a= =b", 1}, {"a<<b", 2}, {"a>>b", 2}, {"a=b", 1}, {"a:=b", 1}, {"a,b", 1}, {"a!b", 1}, {"a!==b", 3}, {"a && && b", 5}, {`a"+"b`, 1},
	} {
		refusePart(t, exprs(), c.s, c.at)
	}
}

// 5.2: a string is no word and no sign, whatever bytes it has.
func TestStringsAreNoMarks(t *testing.T) {
	whole := strings.Fields(`package a ; import b ; const c = - 1 ; var d [ ] * T = x [ 1 : 2 ] . ( T ) ; type T struct { e int ; } type I interface { m ( int , bool ) string ; } func ( t * T ) n ( ) { if a { break ; } else { continue ; } for { return ; } f := true + make ( int , 1 ) ; g = & T { h : nil , i : ! len ( ) } ; } func f [ A any , B comparable ] ( ) { }`)
	tree(t, strings.Join(whole, " "))
	tokens, _, _ := lex.Lex(strings.Join(whole, " "))
	for i, token := range tokens[:len(whole)] {
		if token.Kind != api.TokWord && token.Kind != api.TokSign {
			continue
		}
		turned := slices.Clone(whole)
		turned[i] = `"` + whole[i] + `"`
		s := strings.Join(turned, " ")
		_, at, e := parse.Parse(s)
		switch token.Text {
		case "break", "continue", "return", "true", "nil", "len":
			// A string may stand there too.
			if e != api.OK {
				t.Errorf("of %q: %d at %d", s, e, at)
			}
		case "make":
			if e != api.ErrText || at != tokens[i+2].At+2 {
				t.Errorf("of %q: %d at %d", s, e, at)
			}
		default:
			// Where an expression may stand, the string may, and what is behind it can't.
			if e != api.ErrText || at != token.At && at != tokens[i+1].At+2 {
				t.Errorf("of %q: %d at %d, want %d at %d", s, e, at, api.ErrText, token.At)
			}
		}
	}
}

// 5.2: layer 4's error and place stand ahead of all others.
func TestLexErrors(t *testing.T) {
	for _, c := range []struct {
		s  string
		at int
	}{
		{"#", 0}, {"package a; $", 11}, {"x y z $", 6}, {"package a;\n\x00", 11}, {"package a;const c=07;", 18}, {`package a;var x string="a`, 23}, {"; ; abcdefghijklmnopq", 4}, {"} | {", 2}, {"package a; var x int = 1 + ; 9223372036854775808", 29},
		{aheadOfExpr + strings.Repeat("(", 60) + "'", len(aheadOfExpr) + 60},
		{aheadOfExpr + strings.Repeat("-", 200) + "1;~", len(aheadOfExpr) + 202},
		{aheadOfExpr + "f(" + strings.Repeat("1,", 3100) + "1);^", len(aheadOfExpr) + 2 + 6200 + 3},
	} {
		refuse(t, c.s, c.at, api.ErrText)
	}
	long := "package a;" + strings.Repeat(" ", api.MaxText-10)
	tree(t, long)
	refuse(t, long+" ", 0, api.ErrLong)
	refuse(t, long+"$", 0, api.ErrLong)
	refuse(t, long[1:]+" ", 0, api.ErrText)
	refuse(t, strings.Repeat("(", api.MaxText+1), 0, api.ErrLong)
	refuse(t, strings.Repeat("#", 1<<20), 0, api.ErrLong)
}

// nest is a text within so many pairs of brackets.
func nest(open, in, shut string, times int) string {
	return strings.Repeat(open, times) + in + strings.Repeat(shut, times)
}

// deepest holds that a text is taken with so many pairs within brackets that are open already, and that the bracket of one more is refused: the one at a place of the pair's text.
func deepest(t *testing.T, ahead, open, in, shut, behind string, times, at int) {
	t.Helper()
	tree(t, ahead+nest(open, in, shut, times)+behind)
	refuse(t, ahead+nest(open, in, shut, times+1)+behind, len(ahead)+len(open)*times+at, api.ErrDeep)
	// What stands behind is not seen any more, what stands ahead is.
	refuse(t, ahead+strings.Repeat(open, times+1), len(ahead)+len(open)*times+at, api.ErrDeep)
	refuse(t, ahead+strings.Repeat(open, times+1)+") ) ] } else", len(ahead)+len(open)*times+at, api.ErrDeep)
	refuse(t, ahead+strings.Repeat(open, times)+";"+open, len(ahead)+len(open)*times, api.ErrText)
}

// 5.2: ErrDeep at the bracket of each sort that would be one too many.
func TestDeepBrackets(t *testing.T) {
	most := api.MaxDeep
	deepest(t, aheadOfExpr, "(", "1", ")", ";", most, 0)
	deepest(t, aheadOfExpr, "f(", "1", ")", ";", most, 1)
	deepest(t, aheadOfExpr, "len(", "1", ")", ";", most, 3)
	deepest(t, aheadOfExpr, "-f(1,", "1", ")", ";", most, 2)
	deepest(t, aheadOfExpr, "s[", "1", "]", ";", most, 1)
	deepest(t, aheadOfExpr, "s[:", "1", "]", ";", most, 1)
	deepest(t, aheadOfExpr, "s[1:", "1", "]", ";", most, 1)
	deepest(t, aheadOfExpr, "[]T{", "1", "}", ";", most, 0)
	deepest(t, aheadOfExpr, "&T{a:", "1", "}", ";", most, 2)
	deepest(t, aheadOfExpr, "make(int,", "1", ")", ";", most, 4)
	deepest(t, aheadOfExpr, "([]T{", "1", "})", ";", most/2, 0)
	deepest(t, aheadOfType, "func(", "int", ")", ";", most, 4)
	deepest(t, "package a;func f(){", "{", "", "}", "}", most-1, 0)
	deepest(t, "package a;func f(){", "if a{", "", "}", "}", most-1, 4)
	deepest(t, "package a;func f(){", "if a{}else{", "", "}", "}", most-1, 4)
	deepest(t, "package a;func f(){", "for{", "", "}", "}", most-1, 3)
	deepest(t, "package a;func f(){return "+strings.Repeat("(", 25), "func(){return 1+", "1", ";}", strings.Repeat(")", 25)+";}", most-26, 4)
	deepest(t, "package a;func f(){x=", "(", "1", ")", ";}", most-1, 0)
	deepest(t, "package a;func f(){if ", "(", "1", ")", "{}}", most-1, 0)
	deepest(t, "package a;func f(){{{x:=", "(", "1", ")", ";}}}", most-3, 0)
	deepest(t, "package a;func f(x ", "func(", "int", ")", "){}", most-1, 4)
	deepest(t, "package a;func(t*T)m(x ", "func(", "int", ")", "){}", most-1, 4)
	deepest(t, "package a;type I interface{m(", "func(", "int", ")", ");}", most-2, 4)
	deepest(t, "package a;type T struct{x ", "func(", "int", ")", ";}", most-1, 4)
	deepest(t, aheadOfExpr+"x.(", "func(", "int", ")", ");", most-1, 4)
}

// 5.2: brackets that open with all others open, each sort of them where it may stand; and what is closed is open no more.
func TestLastBrackets(t *testing.T) {
	open, shut := strings.Repeat("(", api.MaxDeep-1), strings.Repeat(")", api.MaxDeep-1)
	for _, c := range []struct {
		s  string
		at int
	}{
		{"(x)", 0}, {"(*T).m", 0}, {"f()", 1}, {"f(1)", 1}, {"len()", 3}, {"make(int,1)", 4}, {"s[0]", 1}, {"s[:]", 1}, {"a.(T)", 2}, {"&T{}", 2}, {"&T{a:1}", 2}, {"[]T{}", 0}, {"[]T{1}", 0}, {"func(){}", 4}, {"[][]T{}", 0}, {"f()()", 1}, {"s[0][1](2).(T)", 1}, {"f()+s[0]+(1)", 1}, {"func()func()int{}", 4},
	} {
		tree(t, aheadOfExpr+open+c.s+shut+";")
		refuse(t, aheadOfExpr+open+"("+c.s+")"+shut+";", len(aheadOfExpr)+api.MaxDeep+c.at, api.ErrDeep)
		refuse(t, aheadOfExpr+open+"("+c.s[:c.at+1], len(aheadOfExpr)+api.MaxDeep+c.at, api.ErrDeep)
	}
	for _, c := range []struct {
		s  string
		at int
	}{
		{"[", 0}, {"func()", 4}, {"func(int)int", 4},
	} {
		ahead := aheadOfType + strings.Repeat("func(", api.MaxDeep)
		refuse(t, ahead+c.s, len(ahead)+c.at, api.ErrDeep)
	}
	// A bracket that can't stand there is no token that is too deep.
	for _, bracket := range []string{"{", "[)", ")", "]", "}"} {
		ahead := aheadOfExpr + open + "("
		at := len(ahead)
		if bracket == "[)" {
			refuse(t, ahead+bracket, at, api.ErrDeep)
			continue
		}
		refuse(t, ahead+bracket, at, api.ErrText)
	}
	refuse(t, aheadOfExpr+open+"(1(", len(aheadOfExpr)+api.MaxDeep+1, api.ErrDeep)
	refuse(t, aheadOfExpr+open+"(1{", len(aheadOfExpr)+api.MaxDeep+1, api.ErrText)
	refuse(t, aheadOfExpr+open+"(len[", len(aheadOfExpr)+api.MaxDeep+3, api.ErrText)
	refuse(t, aheadOfExpr+open+"(len{", len(aheadOfExpr)+api.MaxDeep+3, api.ErrText)
	refuse(t, aheadOfExpr+open+"(&T(", len(aheadOfExpr)+api.MaxDeep+2, api.ErrText)
	refuse(t, aheadOfExpr+open+"(a.[", len(aheadOfExpr)+api.MaxDeep+2, api.ErrText)
	tree(t, aheadOfExpr+strings.Repeat("(1)+", 40)+"1;")
	tree(t, aheadOfExpr+strings.Repeat("f()+s[0]+", 20)+"1;")
	tree(t, "package a;"+strings.Repeat("func f(){}type T struct{}type I interface{}", 100))
	tree(t, "package a;func f(){"+strings.Repeat("{}if a{}else{}for{}", 100)+"}")
	tree(t, "package a;var x "+strings.Repeat("[]", 90)+"int;")
	tree(t, "package a;func f["+strings.Repeat("A any,", 100)+"A any](){}")
	tree(t, "package a;func(t*T)m()int{return "+strings.Repeat("(", api.MaxDeep-1)+"1"+strings.Repeat(")", api.MaxDeep-1)+";}")
}

// 5.2: ErrText and ErrDeep, whichever stands first.
func TestFirstOfFaults(t *testing.T) {
	open := strings.Repeat("(", api.MaxDeep+1)
	at := len(aheadOfExpr)
	refuse(t, aheadOfExpr+"1 1;"+open, at+2, api.ErrText)
	refuse(t, aheadOfExpr+open+"1 1;", at+api.MaxDeep, api.ErrDeep)
	refuse(t, aheadOfExpr+strings.Repeat("(", api.MaxDeep)+"+"+open, at+api.MaxDeep, api.ErrText)
	refuse(t, "package a;"+open, len("package a;"), api.ErrText)
	refuse(t, "package a;x x"+open, len("package a;"), api.ErrText)
	refuse(t, open, 0, api.ErrText)
}

// 5.2: more than MaxNodes nodes are ErrLong, each sort of node counted.
func TestManyNodes(t *testing.T) {
	for _, c := range []struct {
		s     string
		nodes int
	}{
		{"", 0}, {"import b;import c;", 2}, {"const c=-1;", 1}, {"var y T;", 2}, {"var y T=1;", 3}, {"type T struct{}", 1}, {"type T struct{x T;y T;}", 5}, {"type I interface{m(int)T;n();}", 5}, {"func f(){}", 2}, {"func f[A any,B T](x A)T{}", 8}, {"func(t*T)m(){}", 5},
		{"var y []p.T;", 3}, {"var y *T;", 3}, {"var y func(int,int)int;", 5},
		{"func f(){{}{}}", 4}, {"func f(){x:=1;}", 4}, {"func f(){x=1;}", 5}, {"func f(){x;}", 4}, {"func f(){if x{}else if x{}else{}}", 9}, {"func f(){for{}for x{}}", 7}, {"func f(){break;continue;return;return 1;}", 7},
		{"var y T=((x+-1));", 6}, {"var y T=x(1,2);", 6}, {"var y T=x[1];", 5}, {"var y T=x[:];", 4}, {"var y T=x[1:2];", 6}, {"var y T=x.y;", 4}, {"var y T=x.(T);", 5}, {"var y T=&T{a:1,b:2};", 8}, {"var y T=[]T{nil,true};", 6}, {"var y T=func(x T)T{};", 7}, {"var y T=(*T).m;", 4}, {"var y T=make(T,1);", 6}, {`var y T=len("a");`, 5},
	} {
		ahead := "package a;" + c.s + "var x T=[]T{"
		ones := api.MaxNodes - 5 - c.nodes
		s := ahead + strings.Repeat("1,", ones-1) + "1};"
		if got := count(tree(t, s)); got != api.MaxNodes {
			t.Errorf("of %q: %d nodes", c.s, got)
		}
		refuse(t, ahead+strings.Repeat("1,", ones)+"1};", 0, api.ErrLong)
		refuse(t, ahead+strings.Repeat("1,", ones)+"1}", len(ahead)+ones*2+2, api.ErrText)
	}
	ahead := "package a;var x T=[]T{"
	refuse(t, ahead+strings.Repeat("1,", 4000)+"1};", 0, api.ErrLong)
	refuse(t, ahead+strings.Repeat("1,", 4000)+"};", len(ahead)+8000, api.ErrText)
}

// count is how many nodes a tree has.
func count(n api.Node) int {
	all := 1
	for _, kid := range n.Kids {
		all += count(kid)
	}
	return all
}

// 5.2: a tree deeper than MaxDepth is ErrDeep, at 0, unless anything else is wrong.
func TestDeepTrees(t *testing.T) {
	for _, c := range []struct {
		ahead, part, in, behind string
		// How deep the tree is without the part.
		others int
	}{
		{aheadOfExpr, "-", "1", ";", 3},
		{aheadOfExpr, "1+", "1", ";", 3},
		{aheadOfExpr + "x", ".y", "", ";", 3},
		{aheadOfExpr + "f", "()", "", ";", 3},
		{aheadOfExpr + "s", "[0]", "", ";", 3},
		{aheadOfExpr + "s", "[:]", "", ";", 3},
		{aheadOfExpr + "x", ".(T)", "", ";", 3},
		{aheadOfType, "[]", "T", ";", 3},
		{aheadOfType, "func()", "T", ";", 3},
		{"package a;func f(){if a{}", "else if a{}", "", "}", 5},
		{"package a;func f(){if a{}", "else if a{}", "else{x;}", "}", 7},
	} {
		times := api.MaxDepth - c.others
		tree(t, c.ahead+strings.Repeat(c.part, times)+c.in+c.behind)
		deeper := c.ahead + strings.Repeat(c.part, times+1) + c.in + c.behind
		refuse(t, deeper, 0, api.ErrDeep)
		refuse(t, c.ahead+strings.Repeat(c.part, 7*times)+c.in+c.behind, 0, api.ErrDeep)
		refuse(t, deeper+"1", len(deeper), api.ErrText)
		refuse(t, "package a;import b;var y T;"+deeper[len("package a;"):]+"type T struct{}", 0, api.ErrDeep)
	}
	refuse(t, aheadOfExpr+strings.Repeat("-", 8000)+"1;", 0, api.ErrLong)
	refuse(t, aheadOfExpr+strings.Repeat("1+", 1400)+"1;", 0, api.ErrDeep)
	refuse(t, aheadOfExpr+strings.Repeat("1+", 4000)+"1;", 0, api.ErrLong)
	refuse(t, aheadOfExpr+strings.Repeat("!", 2996)+"1;", 0, api.ErrDeep)
	refuse(t, aheadOfExpr+strings.Repeat("!", 2997)+"1;", 0, api.ErrLong)
	refuse(t, aheadOfExpr+strings.Repeat("!", 5000)+strings.Repeat("(", 41)+";", len(aheadOfExpr)+5000+40, api.ErrDeep)
	refuse(t, aheadOfExpr+strings.Repeat("!", 5000)+";", len(aheadOfExpr)+5000, api.ErrText)
}

// lists gathers where a tree's lists of kids lie, their spare room too, and where its texts do.
func lists(t *testing.T, n api.Node, spans *[][2]uintptr) {
	if cap(n.Kids) > 0 {
		from := uintptr(unsafe.Pointer(unsafe.SliceData(n.Kids)))
		*spans = append(*spans, [2]uintptr{from, from + uintptr(cap(n.Kids))*unsafe.Sizeof(n)})
	}
	for _, s := range []string{n.Text, n.Pkg} {
		if s != "" {
			from := uintptr(unsafe.Pointer(unsafe.StringData(s)))
			*spans = append(*spans, [2]uintptr{from, from + uintptr(len(s))})
		}
	}
	for _, kid := range n.Kids {
		lists(t, kid, spans)
	}
}

// R3: no two lists and texts of answers share memory, and none shares any with the text that was handed in.
func TestAnswersShareNothing(t *testing.T) {
	s := strings.Clone(`package abc;import def;const g=1;var h p.T="text";type T struct{x int;y bool;}type I interface{m(a,p.b)int;}func f[A any,B p.I](a A,b B)[]A{x:=g(a,b)(a)[1:2];if x{y=&p.T{a:b,c:d};}else if z{return append(a,b);}for{break;}}func(t*T)m(a int)func(int)int{return (*p.T).m+[]int{1,2}+func(a int)int{return make([]int,3);};}`)
	from := uintptr(unsafe.Pointer(unsafe.StringData(s)))
	spans := [][2]uintptr{{from, from + uintptr(len(s))}}
	one, other := tree(t, s), tree(t, s)
	if !reflect.DeepEqual(one, other) {
		t.Error("the same text has two trees")
	}
	lists(t, one, &spans)
	lists(t, other, &spans)
	for i, a := range spans {
		for _, b := range spans[:i] {
			if a[0] < b[1] && b[0] < a[1] {
				t.Errorf("%d to %d and %d to %d are shared", a[0], a[1], b[0], b[1])
			}
		}
	}
}
