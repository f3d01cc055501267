package parse_test

import (
	"slices"
	"strconv"
	"strings"
	"testing"

	"mortise/api"
	"mortise/lex"
	"mortise/parse"
)

// grammar is the chapter's, word for word, with the two names that it tells beside it.
const grammar = `
    file   = "package" NAME ";" { "import" NAME ";" } { decl }
    decl   = "const" NAME "=" [ "-" ] INT ";" | "var" NAME type [ "=" expr ] ";"
           | "type" NAME "struct" "{" { NAME type ";" } "}"
           | "type" NAME "interface" "{" { NAME "(" [ type { "," type } ] ")" [ type ] ";" } "}"
           | "func" NAME [ "[" tvar { "," tvar } "]" ] "(" [ param { "," param } ] ")" [ type ] block
           | "func" "(" NAME "*" NAME ")" NAME "(" [ param { "," param } ] ")" [ type ] block
    tvar   = NAME ( "any" | "comparable" | TYPENAME )
    param  = NAME type
    type   = "int" | "bool" | "string" | TYPENAME | "*" TYPENAME | "[" "]" type
           | "func" "(" [ type { "," type } ] ")" [ type ]
    block  = "{" { stat } "}"
    stat   = "var" NAME type [ "=" expr ] ";" | NAME ":=" expr ";" | expr "=" expr ";" | expr ";"
           | if | "for" [ expr ] block | "break" ";" | "continue" ";" | "return" [ expr ] ";" | block
    if     = "if" expr block [ "else" ( block | if ) ]
    expr   = unary { SIGN unary }
    unary  = "-" unary | "!" unary | "&" TYPENAME "{" [ key { "," key } ] "}" | first { behind }
    key    = NAME ":" expr
    behind = "(" [ expr { "," expr } ] ")" | "[" expr "]" | "[" [ expr ] ":" [ expr ] "]"
           | "." NAME | "." "(" type ")"
    first  = INT | TEXT | "true" | "false" | "nil" | NAME | "(" expr ")" | "(" "*" TYPENAME ")" "." NAME
           | "[" "]" type "{" [ expr { "," expr } ] "}" | "func" "(" [ param { "," param } ] ")" [ type ] block
           | ( "len" | "append" | "panic" | "put" | "get" ) "(" [ expr { "," expr } ] ")"
           | "make" "(" type "," expr ")"
    TYPENAME = NAME [ "." NAME ]
    SIGN   = "||" | "&&" | "==" | "!=" | "<" | "<=" | ">" | ">=" | "+" | "-" | "*" | "/" | "%"
`

// rules are the grammar without its brackets: for each name the lists of parts that it may be; a part that is no name of a rule is a token's.
type rules struct {
	of    map[string][][]string
	empty map[string]bool
	made  int
}

// readGrammar takes a grammar apart.
func readGrammar(text string) *rules {
	g := &rules{of: map[string][][]string{}, empty: map[string]bool{}}
	fields := strings.Fields(text)
	for len(fields) > 0 {
		name := fields[0]
		var rest []string
		g.of[name], rest = g.choices(fields[2:])
		fields = rest
	}
	for turned := true; turned; {
		turned = false
		for name, choices := range g.of {
			for _, parts := range choices {
				if !g.empty[name] && !slices.ContainsFunc(parts, func(part string) bool { return !g.empty[part] }) {
					g.empty[name], turned = true, true
				}
			}
		}
	}
	return g
}

// choices reads what stands up to a closing bracket, or to the next rule, and what is left.
func (g *rules) choices(fields []string) ([][]string, []string) {
	all := [][]string{nil}
	last := func() *[]string { return &all[len(all)-1] }
	for len(fields) > 0 && (len(fields) == 1 || fields[1] != "=") {
		part := fields[0]
		fields = fields[1:]
		switch part {
		case "|":
			all = append(all, nil)
		case "}", "]", ")":
			return all, fields
		case "{", "[", "(":
			g.made++
			inner := "part " + strconv.Itoa(g.made)
			var within [][]string
			within, fields = g.choices(fields)
			if part == "{" {
				for i := range within {
					within[i] = append([]string{inner}, within[i]...)
				}
			}
			if part != "(" {
				within = append(within, nil)
			}
			g.of[inner] = within
			*last() = append(*last(), inner)
		default:
			*last() = append(*last(), part)
		}
	}
	return all, fields
}

// item is a rule of which the parts ahead of dot stand in the text from a token on.
type item struct {
	name        string
	choice, dot int
	from        int
}

// reading is what may be of the tokens read so far: after each a set of items, that of none first.
type reading struct {
	g    *rules
	sets [][]item
}

func newReading(g *rules) *reading {
	r := &reading{g: g}
	var first []item
	for choice := range g.of["file"] {
		first = append(first, item{"file", choice, 0, 0})
	}
	r.sets = [][]item{r.close(first)}
	return r
}

func (r *reading) next(i item) string {
	parts := r.g.of[i.name][i.choice]
	if i.dot == len(parts) {
		return ""
	}
	return parts[i.dot]
}

// close is a set with all that follows from it.
func (r *reading) close(set []item) []item {
	here := len(r.sets)
	seen := map[item]bool{}
	for _, i := range set {
		seen[i] = true
	}
	add := func(i item) {
		if !seen[i] {
			seen[i] = true
			set = append(set, i)
		}
	}
	for at := 0; at < len(set); at++ {
		i := set[at]
		part := r.next(i)
		if part == "" && i.from < here {
			for _, waits := range r.sets[i.from] {
				if r.next(waits) == i.name {
					waits.dot++
					add(waits)
				}
			}
		}
		for choice := range r.g.of[part] {
			add(item{part, choice, 0, here})
		}
		if r.g.empty[part] {
			i.dot++
			add(i)
		}
	}
	return set
}

// step reads one token more, if it can stand there.
func (r *reading) step(part string) bool {
	var set []item
	for _, i := range r.sets[len(r.sets)-1] {
		if r.next(i) == part {
			i.dot++
			set = append(set, i)
		}
	}
	if set == nil {
		return false
	}
	r.sets = append(r.sets, r.close(set))
	return true
}

func (r *reading) back() { r.sets = r.sets[:len(r.sets)-1] }

// whole tells whether the tokens are a file.
func (r *reading) whole() bool {
	for _, i := range r.sets[len(r.sets)-1] {
		if i.name == "file" && i.from == 0 && r.next(i) == "" {
			return true
		}
	}
	return false
}

// part is a token as the grammar names it.
func part(token api.Token) string {
	switch token.Kind {
	case api.TokName:
		return "NAME"
	case api.TokInt:
		return "INT"
	case api.TokText:
		return "TEXT"
	}
	return `"` + token.Text + `"`
}

// model is the place and the error of a text whose tokens are right, by the grammar alone; of one that the grammar has, no more than that.
func model(g *rules, tokens []api.Token) (int, api.Errno) {
	r := newReading(g)
	open := 0
	for _, token := range tokens[:len(tokens)-1] {
		if !r.step(part(token)) {
			return token.At, api.ErrText
		}
		if token.Kind == api.TokSign {
			switch token.Text {
			case "(", "[", "{":
				open++
			case ")", "]", "}":
				open--
			}
		}
		if open > api.MaxDeep {
			return token.At, api.ErrDeep
		}
	}
	if !r.whole() {
		return tokens[len(tokens)-1].At, api.ErrText
	}
	return 0, api.OK
}

// everyToken is a token of each sort.
func everyToken() []string {
	words := strings.Fields("package import const var type struct interface func if else for break continue return int bool string true false nil any comparable len append make panic put get")
	signs := strings.Fields("( ) [ ] { } , ; . : := = == != < <= > >= + - * / % ! && || &")
	return append(append([]string{"x", "1", `"s"`}, words...), signs...)
}

// grow holds, behind tokens that can stand in a file, each token against the grammar, and goes on behind those that can.
func grow(t *testing.T, r *reading, ahead string, left int) {
	for i, text := range everyToken() {
		tokens, _, _ := lex.Lex(text)
		s := ahead + " " + text
		wantAt, want := len(ahead)+1, api.ErrText
		can := r.step(part(tokens[0]))
		if can {
			wantAt = len(s)
			if r.whole() {
				wantAt, want = 0, api.OK
			}
		}
		if _, at, e := parse.Parse(s); at != wantAt || e != want {
			t.Fatalf("Parse(%q): %d, %d, want %d, %d", s, at, e, wantAt, want)
		}
		if can {
			// Names of all sorts of calls are one; so are words of types, and signs that bind.
			if left > 1 && !slices.Contains(alikeTokens(), i) {
				grow(t, r, s, left-1)
			}
			r.back()
		}
	}
}

// alikeTokens are the places in everyToken of those that stand just where another one does.
func alikeTokens() []int {
	var places []int
	for i, text := range everyToken() {
		switch text {
		case "bool", "string", "false", "nil", "append", "panic", "put", "get", "continue", "==", "!=", "<", "<=", ">", ">=", "/", "%", "&&":
			places = append(places, i)
		}
	}
	return places
}

// 5.2: behind each beginning of a file, as many tokens as are told: what the grammar has can stand there, nothing else can.
func TestAllShortEnds(t *testing.T) {
	g := readGrammar(grammar)
	for _, c := range []struct {
		ahead string
		left  int
	}{
		{"", 5}, {"package x ;", 3}, {"package x ; import x ;", 3}, {"package x ; const", 4}, {"package x ; var x", 4}, {"package x ; var x x", 3},
		{"package x ; type x struct {", 4}, {"package x ; type x interface {", 4}, {"package x ; type x interface { x (", 4}, {"package x ; type x interface { x ( )", 3},
		{"package x ; func", 4}, {"package x ; func x [", 4}, {"package x ; func x (", 4}, {"package x ; func x ( )", 3}, {"package x ; func ( x * x )", 4}, {"package x ; func ( x * x ) x ( )", 3},
		{"package x ; func x ( ) {", 3}, {"package x ; func x ( ) { x", 3}, {"package x ; func x ( ) { x =", 3}, {"package x ; func x ( ) { if x", 3}, {"package x ; func x ( ) { if x { }", 3}, {"package x ; func x ( ) { for", 3}, {"package x ; func x ( ) { return", 3},
		{"package x ; var x x = x", 3}, {"package x ; var x x = x [", 3}, {"package x ; var x x = x .", 4}, {"package x ; var x x = x (", 3}, {"package x ; var x x = x [ x :", 3}, {"package x ; var x x = (", 3}, {"package x ; var x x = ( *", 4}, {"package x ; var x x = ( * x )", 4},
		{"package x ; var x x = &", 4}, {"package x ; var x x = & x {", 4}, {"package x ; var x x = & x { }", 3}, {"package x ; var x x = [", 4}, {"package x ; var x x = [ ] x {", 3}, {"package x ; var x x = func", 4}, {"package x ; var x x = func ( )", 3}, {"package x ; var x x = [ ] func ( )", 3}, {"package x ; var x x = make", 4}, {"package x ; var x x = make ( x ,", 3}, {"package x ; var x x = len", 3}, {"package x ; var x x = x . ( x )", 3}, {"package x ; var x x = - x +", 3},
	} {
		r := newReading(g)
		tokens, _, _ := lex.Lex(c.ahead)
		for _, token := range tokens[:len(tokens)-1] {
			if !r.step(part(token)) {
				t.Fatalf("%q does not begin a file", c.ahead)
			}
		}
		grow(t, r, c.ahead, c.left)
	}
}
