package lex_test

import (
	"math"
	"math/big"
	"regexp"
	"slices"
	"strings"
	"testing"

	"mortise/api"
	"mortise/lex"
)

// A second telling of 4.1, by patterns alone.
var (
	gaps    = regexp.MustCompile(`^([ \t\n\r]|//[^\n]*)*`)
	letters = regexp.MustCompile(`^[a-zA-Z_][a-zA-Z0-9_]*`)
	figures = regexp.MustCompile(`^[0-9]+[a-zA-Z_]?`)
	plain   = regexp.MustCompile(`^(0|[1-9][0-9]*)$`)
	inMarks = regexp.MustCompile(`^"([ !#-\[\]-~]|\\[n"\\])*"`)
	anySign = regexp.MustCompile(`^(:=|==|!=|<=|>=|&&|\|\||[][(){},;.:=<>+*/%!&-])`)
)

// model is what Lex answers, told by patterns.
func model(s string) ([]api.Token, int, api.Errno) {
	if len(s) > api.MaxText {
		return nil, 0, api.ErrLong
	}
	var list []api.Token
	at := len(gaps.FindString(s))
	for at < len(s) {
		token, whole := modelToken(s[at:])
		if whole == "" {
			return nil, at, api.ErrText
		}
		token.At = at
		list = append(list, token)
		at += len(whole)
		at += len(gaps.FindString(s[at:]))
	}
	return append(list, api.Token{Kind: api.TokEnd, At: len(s)}), 0, api.OK
}

// modelToken is the token that a text begins with, and how it stands there: empty, if there is none.
func modelToken(s string) (api.Token, string) {
	if whole := letters.FindString(s); whole != "" {
		if slices.Contains(words(), whole) {
			return api.Token{Kind: api.TokWord, Text: whole}, whole
		}
		if len(whole) > api.MaxName {
			return api.Token{}, ""
		}
		return api.Token{Kind: api.TokName, Text: whole}, whole
	}
	if whole := figures.FindString(s); whole != "" {
		n, is := new(big.Int).SetString(whole, 10)
		if !plain.MatchString(whole) || !is || n.Cmp(big.NewInt(math.MaxInt64)) > 0 {
			return api.Token{}, ""
		}
		return api.Token{Kind: api.TokInt, Text: whole, N: n.Int64()}, whole
	}
	if whole := inMarks.FindString(s); whole != "" {
		means := strings.NewReplacer(`\n`, "\n", `\"`, `"`, `\\`, `\`).Replace(whole[1 : len(whole)-1])
		if len(means) > api.MaxString {
			return api.Token{}, ""
		}
		return api.Token{Kind: api.TokText, Text: means}, whole
	}
	whole := anySign.FindString(s)
	return api.Token{Kind: api.TokSign, Text: whole}, whole
}

func againstModel(t *testing.T, s string) {
	t.Helper()
	got, gotAt, gotE := lex.Lex(s)
	want, wantAt, wantE := model(s)
	if !slices.Equal(got, want) || gotAt != wantAt || gotE != wantE {
		t.Fatalf("Lex(%q) = %v, %d, %d, want %v, %d, %d", s, got, gotAt, gotE, want, wantAt, wantE)
	}
}

// 4.1: all texts of up to four of these bytes.
func TestAllShortTexts(t *testing.T) {
	of := "a_07\"\\n/= \n:|&"
	var grow func(s string)
	grow = func(s string) {
		againstModel(t, s)
		if len(s) < 4 {
			for i := range len(of) {
				grow(s + of[i:i+1])
			}
		}
	}
	grow("")
}

// 4.1: texts put together of pieces, the same ones in each run: some whole, some cut, some with a byte turned.
func TestMadeTexts(t *testing.T) {
	pieces := append(words(), signs()...)
	pieces = append(pieces, " ", " ", "\t", "\n", "\r\n", "// x\n", "//", "x", "Name", "_9", "0", "7", "12", "9223372036854775807", "9223372036854775808",
		`""`, `"a b"`, `"\n\"\\"`, `"`, `\`, "|", "#", "\x80", strings.Repeat("m", api.MaxName-1), strings.Repeat("1", 18), `"`+strings.Repeat("s", api.MaxString-1))
	state := uint64(4)
	next := func(n int) int {
		state = state*6364136223846793005 + 1442695040888963407
		return int(state >> 33 % uint64(n))
	}
	for round := range 20000 {
		var made []byte
		for range next(12) {
			made = append(made, pieces[next(len(pieces))]...)
			if next(2) == 0 {
				made = append(made, ' ')
			}
		}
		if round%3 == 1 && len(made) > 0 {
			made = made[next(len(made)):]
		}
		if round%3 == 2 && len(made) > 0 {
			made[next(len(made))] = byte(next(256))
		}
		againstModel(t, string(made))
	}
}

// 4.1, 4.2: a text that is one word or one name, whole, is what Word and Name say that it is.
func TestWordAndNameAsTokens(t *testing.T) {
	of := "ifn_0 \n/;"
	var grow func(s string)
	grow = func(s string) {
		tokens, _, e := lex.Lex(s)
		one := e == api.OK && len(tokens) == 2 && len(tokens[0].Text) == len(s)
		checkNamed(t, s, one && tokens[0].Kind == api.TokWord, one && tokens[0].Kind == api.TokName)
		if len(s) < 5 {
			for i := range len(of) {
				grow(s + of[i:i+1])
			}
		}
	}
	grow("")
}
