package lex_test

import (
	"math"
	"slices"
	"strconv"
	"strings"
	"testing"
	"unsafe"

	"mortise/api"
	"mortise/lex"
)

// words are those that 4.1 lists.
func words() []string {
	return strings.Fields("package import const var type struct interface func if else for break continue return int bool string true false nil any comparable len append make panic put get")
}

// signs are those that 4.1 lists.
func signs() []string {
	return strings.Fields("( ) [ ] { } , ; . : := = == != < <= > >= + - * / % ! && || &")
}

func name(text string, at int) api.Token { return api.Token{Kind: api.TokName, Text: text, At: at} }
func word(text string, at int) api.Token { return api.Token{Kind: api.TokWord, Text: text, At: at} }
func text(text string, at int) api.Token { return api.Token{Kind: api.TokText, Text: text, At: at} }
func sign(text string, at int) api.Token { return api.Token{Kind: api.TokSign, Text: text, At: at} }
func end(at int) api.Token               { return api.Token{Kind: api.TokEnd, At: at} }

func number(n int64, at int) api.Token {
	return api.Token{Kind: api.TokInt, Text: strconv.FormatInt(n, 10), N: n, At: at}
}

// check holds what Lex answers of a text that it takes against its tokens, the end among them.
func check(t *testing.T, s string, want ...api.Token) {
	t.Helper()
	got, at, e := lex.Lex(s)
	if e != api.OK || at != 0 || !slices.Equal(got, want) {
		t.Errorf("Lex(%q) = %v, %d, %d, want %v, 0, 0", s, got, at, e, want)
	}
}

// refuse holds that Lex refuses a text, and that nothing but the place stands beside the error.
func refuse(t *testing.T, s string, wantAt int, want api.Errno) {
	t.Helper()
	if got, at, e := lex.Lex(s); len(got) != 0 || at != wantAt || e != want {
		t.Errorf("Lex(%q) = %v, %d, %d, want none, %d, %d", s, got, at, e, wantAt, want)
	}
}

// 4.1: the chapter's examples.
func TestExamples(t *testing.T) {
	check(t, "x := 5;", name("x", 0), sign(":=", 2), number(5, 5), sign(";", 6), end(7))
	check(t, "a // b", name("a", 0), end(6))
	refuse(t, "07", 0, api.ErrText)
	refuse(t, `"`, 0, api.ErrText)
}

// 4.1: a whole text, all kinds of tokens in it.
func TestWholeText(t *testing.T) {
	check(t, "package a; // the first\nfunc F(x int) {\n\tput(x[10]); }\n",
		word("package", 0), name("a", 8), sign(";", 9),
		word("func", 24), name("F", 29), sign("(", 30), name("x", 31), word("int", 33), sign(")", 36), sign("{", 38),
		word("put", 41), sign("(", 44), name("x", 45), sign("[", 46), number(10, 47), sign("]", 49), sign(")", 50), sign(";", 51),
		sign("}", 53), end(55))
	check(t, `var s string="a//b\n";`,
		word("var", 0), name("s", 4), word("string", 6), sign("=", 12), text("a//b\n", 13), sign(";", 21), end(22))
}

// 4.1: of all bytes just four are blanks; others that begin no token are refused where they stand.
func TestBlanks(t *testing.T) {
	check(t, "", end(0))
	check(t, " \t\n\r", end(4))
	check(t, "\r\r\n\n  a\t\tb ", name("a", 6), name("b", 9), end(11))
	begins := "()[]{},;.:=<>+-*/%!&"
	for b := range 256 {
		c := string([]byte{byte(b)})
		s := "a " + c + " b"
		switch {
		case strings.Contains(" \t\n\r", c):
			check(t, s, name("a", 0), name("b", 4), end(5))
		case strings.Contains(begins, c):
			check(t, s, name("a", 0), sign(c, 2), name("b", 4), end(5))
		case c >= "0" && c <= "9":
			check(t, s, name("a", 0), number(int64(b-'0'), 2), name("b", 4), end(5))
		case c >= "a" && c <= "z" || c >= "A" && c <= "Z" || c == "_":
			check(t, s, name("a", 0), name(c, 2), name("b", 4), end(5))
		default:
			refuse(t, s, 2, api.ErrText)
		}
	}
}

// 4.1: a remark goes up to the next byte 10, whatever stands in it, or to the end.
func TestRemarks(t *testing.T) {
	check(t, "//", end(2))
	check(t, "// a", end(4))
	check(t, "//\na", name("a", 3), end(4))
	check(t, "a//b\nc", name("a", 0), name("c", 5), end(6))
	check(t, "a///\nc", name("a", 0), name("c", 5), end(6))
	check(t, "//a\n//b\n\n//c", end(12))
	check(t, "// a // b\n// \"\nc", name("c", 15), end(16))
	check(t, "1//2\n/ /3", number(1, 0), sign("/", 5), sign("/", 7), number(3, 8), end(9))
	check(t, "a/b", name("a", 0), sign("/", 1), name("b", 2), end(3))
	check(t, "a/", name("a", 0), sign("/", 1), end(2))
	check(t, "=//\n=", sign("=", 0), sign("=", 4), end(5))
	check(t, `"//"`, text("//", 0), end(4))
	check(t, "fu//\nnc", name("fu", 0), name("nc", 5), end(7))
	for b := range 256 {
		if b != '\n' {
			s := "// " + string([]byte{byte(b)}) + " x\ny"
			check(t, s, name("y", 7), end(8))
		}
	}
}

// 4.1: each word by itself, and among what would make it longer.
func TestWords(t *testing.T) {
	for _, w := range words() {
		n := len(w)
		check(t, w, word(w, 0), end(n))
		check(t, " "+w+"(", word(w, 1), sign("(", n+1), end(n+2))
		check(t, w+" "+w, word(w, 0), word(w, n+1), end(2*n+1))
		check(t, `"`+w+`"`, text(w, 0), end(n+2))
		for _, other := range []string{w + "s", w + "_", w + "0", "_" + w, "x" + w, w + "X", w[:n-1] + "_", strings.ToUpper(w), strings.ToUpper(w[:1]) + w[1:]} {
			check(t, other, name(other, 0), end(len(other)))
		}
	}
	check(t, "func funcs iff if forelse", word("func", 0), name("funcs", 5), name("iff", 11), word("if", 15), name("forelse", 18), end(25))
	check(t, "const5 switch while map goto", name("const5", 0), name("switch", 7), name("while", 14), name("map", 20), name("goto", 24), end(28))
}

// 4.1: names, up to the longest.
func TestNamesOfTexts(t *testing.T) {
	long := strings.Repeat("n", api.MaxName)
	check(t, "a B _ __ a1_Z z9 _0 Az", name("a", 0), name("B", 2), name("_", 4), name("__", 6), name("a1_Z", 9), name("z9", 14), name("_0", 17), name("Az", 20), end(22))
	check(t, long, name(long, 0), end(16))
	check(t, long+" "+long, name(long, 0), name(long, 17), end(33))
	check(t, "comparable_comps", name("comparable_comps", 0), end(16))
	refuse(t, long+"n", 0, api.ErrText)
	refuse(t, long+"0", 0, api.ErrText)
	refuse(t, "a "+long+"_ b", 2, api.ErrText)
	refuse(t, "comparable_compar", 0, api.ErrText)
	refuse(t, strings.Repeat("x", api.MaxText), 0, api.ErrText)
	check(t, long+"/n", name(long, 0), sign("/", 16), name("n", 17), end(18))
	refuse(t, "na\xc3\xafve", 2, api.ErrText)
}

// 4.1: numbers have no nought ahead, 63 bits, and no letter right behind.
func TestNumbers(t *testing.T) {
	for _, n := range []int64{0, 1, 9, 10, 100, 1234567890, 1 << 32, 999999999999999999, 1000000000000000000, math.MaxInt64 - 1, math.MaxInt64} {
		s := strconv.FormatInt(n, 10)
		check(t, s, number(n, 0), end(len(s)))
		check(t, "\n"+s+";", number(n, 1), sign(";", len(s)+1), end(len(s)+2))
		refuse(t, "0"+s, 0, api.ErrText)
		refuse(t, "a 00"+s, 2, api.ErrText)
		for _, c := range []string{"a", "z", "A", "Z", "_", "x1", "e5"} {
			refuse(t, "  "+s+c, 2, api.ErrText)
		}
	}
	for _, s := range []string{"9223372036854775808", "9223372036854775810", "9300000000000000000", "10000000000000000000", "18446744073709551615", "18446744073709551616", "18446744073709551617", strings.Repeat("9", api.MaxText)} {
		refuse(t, s, 0, api.ErrText)
	}
	check(t, "-5", sign("-", 0), number(5, 1), end(2))
	check(t, "1.5", number(1, 0), sign(".", 1), number(5, 2), end(3))
	check(t, "0 0", number(0, 0), number(0, 2), end(3))
	check(t, "0//\n7", number(0, 0), number(7, 4), end(5))
	check(t, `1"a"2`, number(1, 0), text("a", 1), number(2, 4), end(5))
	check(t, "a1 1", name("a1", 0), number(1, 3), end(4))
	refuse(t, "1\xc3\xa9", 1, api.ErrText)
	refuse(t, "0x10", 0, api.ErrText)
	refuse(t, "1_000", 0, api.ErrText)
}

// 4.1: which bytes stand in a string, and what \ means with each.
func TestBytesOfStrings(t *testing.T) {
	for b := range 256 {
		c := string([]byte{byte(b)})
		if b >= 32 && b <= 126 && b != '"' && b != '\\' {
			check(t, `"`+c+`"`, text(c, 0), end(3))
			check(t, `;"x`+c+`y" `, sign(";", 0), text("x"+c+"y", 1), end(7))
		} else if b != '"' {
			refuse(t, `;"x`+c+`y" `, 1, api.ErrText)
		}
		switch b {
		case 'n':
			check(t, `"x\ny"`, text("x\ny", 0), end(6))
		case '"', '\\':
			check(t, `"x\`+c+`y"`, text("x"+c+"y", 0), end(6))
		default:
			refuse(t, `;"x\`+c+`y"`, 1, api.ErrText)
		}
	}
}

// 4.1: where strings end, and how long they may be: what counts is what they mean.
func TestStrings(t *testing.T) {
	check(t, `""`, text("", 0), end(2))
	check(t, `"""a"`, text("", 0), text("a", 2), end(5))
	check(t, `"a"b"c"`, text("a", 0), name("b", 3), text("c", 4), end(7))
	check(t, `"\\"`, text(`\`, 0), end(4))
	check(t, `"\\n"`, text(`\n`, 0), end(5))
	check(t, `"\\\n"`, text("\\\n", 0), end(6))
	check(t, `"\\\\"n`, text(`\\`, 0), name("n", 6), end(7))
	check(t, `"\""`, text(`"`, 0), end(4))
	check(t, `"n\n\"\\"`, text("n\n\"\\", 0), end(9))
	check(t, `"0123 func := x"`, text("0123 func := x", 0), end(16))
	for _, s := range []string{`"`, `"a`, `"\`, `"\"`, `"\\\"`, `"a\`, "\"a\nb\"", "\"a\n", `"a" "`} {
		refuse(t, s, strings.LastIndex(s, ` "`)+1, api.ErrText)
	}
	for _, part := range []struct{ written, means string }{{"s", "s"}, {" ", " "}, {`\n`, "\n"}, {`\"`, `"`}, {`\\`, `\`}} {
		written, means := strings.Repeat(part.written, api.MaxString), strings.Repeat(part.means, api.MaxString)
		check(t, `"`+written+`"`, text(means, 0), end(len(written)+2))
		refuse(t, ` "`+written+`s"`, 1, api.ErrText)
		refuse(t, ` "s`+written+`"`, 1, api.ErrText)
		refuse(t, `"`+written, 0, api.ErrText)
	}
	refuse(t, `"`+strings.Repeat("s", api.MaxText-2)+`"`, 0, api.ErrText)
}

// 4.1: each sign by itself, and each pair of signs with nothing between: of two of them that stand for one longer one, that one is the token.
func TestSigns(t *testing.T) {
	longer := []string{":=", "==", "!=", "<=", ">=", "&&"}
	for _, a := range signs() {
		check(t, a, sign(a, 0), end(len(a)))
		check(t, "x"+a+"1", name("x", 0), sign(a, 1), number(1, len(a)+1), end(len(a)+2))
		check(t, a+`"a"`, sign(a, 0), text("a", len(a)), end(len(a)+3))
		for _, b := range signs() {
			n := len(a) + len(b)
			check(t, a+" "+b, sign(a, 0), sign(b, len(a)+1), end(n+1))
			switch {
			case a == "/" && b == "/":
				check(t, a+b, end(n))
			case slices.Contains(longer, a+b[:1]):
				if len(b) == 1 {
					check(t, a+b, sign(a+b, 0), end(n))
				} else {
					check(t, a+b, sign(a+b[:1], 0), sign(b[1:], 2), end(n))
				}
			default:
				check(t, a+b, sign(a, 0), sign(b, len(a)), end(n))
			}
		}
	}
	check(t, "a.b<=c<d&&!e&f", name("a", 0), sign(".", 1), name("b", 2), sign("<=", 3), name("c", 5), sign("<", 6), name("d", 7), sign("&&", 8), sign("!", 10), name("e", 11), sign("&", 12), name("f", 13), end(14))
	check(t, "===", sign("==", 0), sign("=", 2), end(3))
	check(t, "&&&", sign("&&", 0), sign("&", 2), end(3))
	check(t, "||||", sign("||", 0), sign("||", 2), end(4))
	check(t, "::=", sign(":", 0), sign(":=", 1), end(3))
	check(t, "+=", sign("+", 0), sign("=", 1), end(2))
	check(t, "=>", sign("=", 0), sign(">", 1), end(2))
	check(t, "<<", sign("<", 0), sign("<", 1), end(2))
}

// 4.1: what is no token is told by where it begins, the first of several.
func TestFirstFault(t *testing.T) {
	for _, c := range []string{"|", "#", "$", "'", "?", "@", "\\", "^", "`", "~", "\x00", "\x0b", "\x0c", "\x1f", "\x7f", "\x80", "\xff", "\xc2\xa0", "\xe2\x80\xa8", "\xef\xbb\xbf"} {
		refuse(t, c, 0, api.ErrText)
		refuse(t, "a := 1;\n"+c, 8, api.ErrText)
		refuse(t, "ab"+c+"07", 2, api.ErrText)
	}
	refuse(t, "a | b", 2, api.ErrText)
	refuse(t, "a ||| b", 4, api.ErrText)
	refuse(t, "|", 0, api.ErrText)
	refuse(t, "a 12x", 2, api.ErrText)
	refuse(t, "a 07 #", 2, api.ErrText)
	refuse(t, "a # 07", 2, api.ErrText)
	refuse(t, "// #\n\"a\" \"b", 9, api.ErrText)
	refuse(t, strings.Repeat(" ", api.MaxText-1)+"#", api.MaxText-1, api.ErrText)
	refuse(t, strings.Repeat("a ", api.MaxText/2-1)+"a\"", api.MaxText-1, api.ErrText)
}

// 4.1: a text may have MaxText bytes; of one more than that nothing else is told.
func TestLongTexts(t *testing.T) {
	check(t, strings.Repeat(" ", api.MaxText), end(api.MaxText))
	check(t, "//"+strings.Repeat("\xff", api.MaxText-2), end(api.MaxText))
	tokens, at, e := lex.Lex(strings.Repeat(";", api.MaxText))
	if len(tokens) != api.MaxText+1 || at != 0 || e != api.OK || tokens[api.MaxText] != end(api.MaxText) || tokens[api.MaxText-1] != sign(";", api.MaxText-1) {
		t.Errorf("of the most signs: %d tokens, %d, %d", len(tokens), at, e)
	}
	for _, s := range []string{" ", ";", "#", `"`, "7", "x", "\x00"} {
		refuse(t, strings.Repeat(s, api.MaxText+1), 0, api.ErrLong)
	}
	refuse(t, "a #"+strings.Repeat(" ", api.MaxText-2), 0, api.ErrLong)
	refuse(t, "a 07"+strings.Repeat(" ", 1<<22), 0, api.ErrLong)
}

// 4.2: which texts are words, which are names.
func TestWordAndName(t *testing.T) {
	for _, w := range words() {
		checkNamed(t, w, true, false)
		for _, other := range []string{w + "s", w + "_", w + "1", "_" + w, strings.ToUpper(w), strings.ToUpper(w[:1]) + w[1:], w[:len(w)-1] + "_"} {
			checkNamed(t, other, false, true)
		}
		for _, other := range []string{" " + w, w + " ", w + "\n", "\x00" + w, w + "\x00", w + ".", w + "//", w + " " + w, `"` + w + `"`, "1" + w} {
			checkNamed(t, other, false, false)
		}
	}
	for _, s := range []string{"a", "_", "A9_", "Z", "z", "x0", "goto", strings.Repeat("n", 16), strings.Repeat("_", 16), "A" + strings.Repeat("9", 15)} {
		checkNamed(t, s, false, true)
	}
	for _, s := range []string{"", "9", "9a", "0", " ", " a", "a ", "a b", "a-", "-a", "a.b", "a\n", "\"a\"", "a//", "\xc3\xa9", "a\xc3\xa9", "a\x00", ":=", strings.Repeat("n", 17), strings.Repeat("n", 1<<20), "comparable_compar"} {
		checkNamed(t, s, false, false)
	}
}

// 4.2: each byte as a name, as its first and as its second byte.
func TestBytesOfNames(t *testing.T) {
	for b := range 256 {
		c := string([]byte{byte(b)})
		letter := b >= 'a' && b <= 'z' || b >= 'A' && b <= 'Z' || b == '_'
		behind := letter || b >= '0' && b <= '9'
		checkNamed(t, c, false, letter)
		checkNamed(t, c+"q", false, letter)
		checkNamed(t, "q"+c, false, behind)
		checkNamed(t, "q"+c+"q", false, behind)
	}
}

func checkNamed(t *testing.T, s string, isWord, isName bool) {
	t.Helper()
	if gotWord, gotName := lex.Word(s), lex.Name(s); gotWord != isWord || gotName != isName {
		t.Errorf("of %q: Word %v, Name %v, want %v, %v", s, gotWord, gotName, isWord, isName)
	}
}

// R3, R5: the same text has the same tokens, and no list shares memory with another, its spare room neither.
func TestAnswersShareNothing(t *testing.T) {
	s := `package a; var s string = "a";`
	one, _, _ := lex.Lex(s)
	kept := slices.Clone(one)
	other, _, _ := lex.Lex(s)
	for i := range other {
		other[i] = api.Token{Kind: api.TokInt, Text: "7", N: 7, At: 7}
	}
	other = append(other, number(8, 8))
	more, _, _ := lex.Lex(s)
	if !slices.Equal(one, kept) || !slices.Equal(more, kept) || other[len(other)-1] != number(8, 8) {
		t.Errorf("%v, %v, then %v", kept, one, more)
	}
}

// R3: texts of tokens lie elsewhere than the text that they were read of.
func TestTextsAreNew(t *testing.T) {
	s := strings.Clone(`package abc; var s string = "text" == 12345;`)
	from := uintptr(unsafe.Pointer(unsafe.StringData(s)))
	tokens, _, _ := lex.Lex(s)
	for _, token := range tokens {
		if token.Text == "" {
			continue
		}
		if at := uintptr(unsafe.Pointer(unsafe.StringData(token.Text))); at >= from && at < from+uintptr(len(s)) {
			t.Errorf("%q lies in the text", token.Text)
		}
	}
}
