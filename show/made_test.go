package show_test

import (
	"fmt"
	"math"
	"reflect"
	"slices"
	"strings"
	"testing"

	"mortise/api"
	"mortise/lex"
	"mortise/parse"
	"mortise/show"
)

// plain is a copy of a tree without places, none of its lists empty.
func plain(n api.Node) api.Node {
	n.At = 0
	kids := n.Kids
	n.Kids = nil
	for _, kid := range kids {
		n.Kids = append(n.Kids, plain(kid))
	}
	return n
}

// same tells whether two trees are one but for places.
func same(a, b api.Node) bool { return reflect.DeepEqual(plain(a), plain(b)) }

// reads tells whether a text is read as a tree.
func reads(s string, n api.Node) bool {
	tree, _, e := parse.Parse(s)
	return e == api.OK && same(tree, n)
}

// tokensOf are a text's tokens as they stand in it.
func tokensOf(t *testing.T, s string) []string {
	t.Helper()
	all, at, e := lex.Lex(s)
	if e != api.OK {
		t.Fatalf("Lex(%q): %d, %d", s, at, e)
	}
	var tokens []string
	for i, token := range all[:len(all)-1] {
		tokens = append(tokens, strings.TrimRight(s[token.At:all[i+1].At], " \t\r\n"))
	}
	return tokens
}

// needless is the text without one pair of brackets that it is read as the same tree without, if there is one.
func needless(tokens []string, n api.Node) (string, bool) {
	var open []int
	for i, token := range tokens {
		switch token {
		case "(":
			open = append(open, i)
		case ")":
			from := open[len(open)-1]
			open = open[:len(open)-1]
			without := slices.Concat(tokens[:from], tokens[from+1:i], tokens[i+1:])
			if s := strings.Join(without, " "); reads(s, n) {
				return s, true
			}
		}
	}
	return "", false
}

// checkText holds the text of a tree that has one against all that the chapter says of it.
func checkText(t *testing.T, n api.Node) string {
	t.Helper()
	s, e := show.Text(n)
	if e != api.OK {
		t.Fatalf("Text(%s): %d", brief(n), e)
	}
	tree, at, e := parse.Parse(s)
	if e != api.OK || !same(tree, n) || !show.Alike(tree, n) {
		t.Fatalf("%q is not read as %s, but %s, %d, %d", s, brief(n), brief(tree), at, e)
	}
	tokens := tokensOf(t, s)
	if s != strings.Join(tokens, " ") {
		t.Fatalf("%q has not just one blank between any two tokens", s)
	}
	if shorter, can := needless(tokens, n); can {
		t.Fatalf("%q could be %q", s, shorter)
	}
	if again, e := show.Text(tree); e != api.OK || again != s {
		t.Fatalf("%q is read as what is shown as %q, %d", s, again, e)
	}
	return s
}

// checkRefused holds that a tree has no text.
func checkRefused(t *testing.T, n api.Node, want api.Errno) {
	t.Helper()
	if s, e := show.Text(n); s != "" || e != want {
		t.Errorf("Text(%s): %q, %d, want none, %d", brief(n), brief(s), e, want)
	}
}

// brief is what is told of a tree or a text.
func brief(what any) string {
	s := fmt.Sprintf("%v", what)
	if len(s) > 400 {
		return s[:200] + " .. " + s[len(s)-200:]
	}
	return s
}

func eachNode(n *api.Node, do func(*api.Node)) {
	do(n)
	for i := range n.Kids {
		eachNode(&n.Kids[i], do)
	}
}

// 6.2, 6.3: made trees.
func TestMadeTrees(t *testing.T) {
	kinds := map[int]int{}
	of := newModel()
	for round := range 1500 {
		m := &maker{model: of, state: uint64(round), left: 60, deep: 12}
		n := m.make("file")
		checkText(t, n)
		eachNode(&n, func(part *api.Node) { kinds[part.Kind]++ })
	}
	for kind := api.NFile; kind <= api.NMethodExpr; kind++ {
		if kinds[kind] < 100 {
			t.Errorf("of kind %d %d nodes were made", kind, kinds[kind])
		}
	}
}

// turn changes a node in one of several ways.
func (m *maker) turn(n *api.Node, other api.Node) {
	switch m.upTo(9) {
	case 0:
		n.Kind = m.upTo(api.NMethodExpr + 3)
	case 1:
		n.Op = m.upTo(21) - 1
	case 2:
		n.N = pick(m, []int64{-1, 0, 1, 2, 3, 4, math.MaxInt64, math.MinInt64, 1 << 32})
	case 3:
		n.Pkg = pick(m, []string{"", "p", "int", "len", "1", "p.q", "sixteen_bytes_16", "seventeen_bytes_x"})
	case 4:
		n.Text = pick(m, []string{"", "x", "int", "len", "make", "func", "nil", "1x", "x-", "sixteen_bytes_16", "seventeen_bytes_x", "\n", "\t", "é"})
	case 5:
		*n = other
	default:
		m.turnKids(n, other)
	}
}

func (m *maker) turnKids(n *api.Node, other api.Node) {
	count := len(n.Kids)
	at := m.upTo(count + 1)
	switch {
	case count == 0 || m.upTo(3) == 0:
		n.Kids = slices.Insert(slices.Clone(n.Kids), at, other)
	case m.upTo(2) == 0:
		to := m.upTo(count)
		n.Kids[at%count], n.Kids[to] = n.Kids[to], n.Kids[at%count]
	default:
		n.Kids = slices.Delete(slices.Clone(n.Kids), at%count, at%count+1)
	}
}

// long is a tree with as much behind it that its text has more than MaxText bytes.
func long(n api.Node) api.Node {
	n.Kids = slices.Clone(n.Kids)
	for range 45 {
		n.Kids = append(n.Kids, variable(api.Node{Kind: api.NText, Text: strings.Repeat("\"", api.MaxString)}))
	}
	return n
}

// checkEither holds that a tree has a text just if the grammar has it, a long one too; it tells whether that is so.
func checkEither(t *testing.T, m *model, n api.Node) bool {
	t.Helper()
	if m.fits(n, "file") {
		checkText(t, n)
		checkRefused(t, long(n), api.ErrLong)
		return true
	}
	checkRefused(t, n, api.ErrForm)
	checkRefused(t, long(n), api.ErrForm)
	return false
}

// 6.2: made trees that are then turned in some places have a text just if the grammar has them.
func TestTurnedTrees(t *testing.T) {
	counts := map[bool]int{}
	of := newModel()
	for round := range 8000 {
		m := &maker{model: of, state: uint64(round) + 1<<40, left: 30, deep: 10}
		n := m.make("file")
		for range 1 + m.upTo(2) {
			var all []*api.Node
			eachNode(&n, func(part *api.Node) { all = append(all, part) })
			m.turn(pick(m, all), plain(*pick(m, all)))
		}
		counts[checkEither(t, of, n)]++
	}
	if counts[true] < 500 || counts[false] < 2000 {
		t.Errorf("how they ended: %v", counts)
	}
}

// 6.1: made trees, turned or not, against what they are without places.
func TestAlikeTurned(t *testing.T) {
	counts := map[bool]int{}
	of := newModel()
	for round := range 5000 {
		m := &maker{model: of, state: uint64(round) + 1<<50, left: 20, deep: 8}
		a := m.make("file")
		b := plain(a)
		var all []*api.Node
		eachNode(&b, func(part *api.Node) { all = append(all, part) })
		m.turn(pick(m, all), plain(*pick(m, all)))
		want := reflect.DeepEqual(plain(a), plain(b))
		counts[want]++
		if show.Alike(a, b) != want || show.Alike(b, a) != want {
			t.Fatalf("Alike(%v, %v): want %v", a, b, want)
		}
	}
	if counts[true] < 200 || counts[false] < 2000 {
		t.Errorf("how they ended: %v", counts)
	}
}
