package graph_test

import (
	"fmt"
	"math"
	"slices"
	"strconv"
	"strings"
	"testing"

	"mortise/api"
	"mortise/graph"
)

// checkOrder holds what Order answers against what is wanted.
func checkOrder(t *testing.T, names []string, needs [][]string, want []int, place int, refusal api.Errno) {
	t.Helper()
	order, at, e := graph.Order(names, needs)
	if e != refusal || at != place || !slices.Equal(order, want) {
		t.Errorf("Order(%q, %q): %v, %d, %d, want %v, %d, %d", names, needs, order, at, e, want, place, refusal)
	}
}

// checkBelow holds what Below answers against what is wanted.
func checkBelow(t *testing.T, names []string, needs [][]string, at int, want ...int) {
	t.Helper()
	if below := graph.Below(names, needs, at); !slices.Equal(below, want) {
		t.Errorf("Below(%q, %q, %d): %v, want %v", names, needs, at, below, want)
	}
}

// checkBoth holds Order and Below of all numbers against the second telling; it tells what was answered.
func checkBoth(t *testing.T, names []string, needs [][]string) api.Errno {
	t.Helper()
	order, at, e := modelOrder(names, needs)
	checkOrder(t, names, needs, order, at, e)
	for at := -1; at <= len(names); at++ {
		checkBelow(t, names, needs, at, modelBelow(names, needs, at)...)
	}
	return e
}

// imports are lists of names, with bars between the packages.
func imports(text string) [][]string {
	var needs [][]string
	for _, list := range strings.Split(text, "|") {
		needs = append(needs, strings.Fields(list))
	}
	return needs
}

// 9.1: the least name of those that may come next.
func TestOrder(t *testing.T) {
	for _, c := range []struct {
		names, needs string
		want         []int
	}{
		{"a b c", "c||", []int{1, 2, 0}}, // the chapter's example
		{"a", "", []int{0}},
		{"c b a", "||", []int{2, 1, 0}},
		{"a b c", "||", []int{0, 1, 2}},
		{"c b a", "b|a|", []int{2, 1, 0}},
		{"a b c", "b|c|", []int{2, 1, 0}},
		{"a b c", "|a|b", []int{0, 1, 2}},
		// What comes to be ready late stands ahead of what was ready from the beginning on.
		{"x b a y", "|||a", []int{2, 1, 0, 3}},
		{"z a m", "|z|", []int{2, 0, 1}},
		{"a b c d", "b|d||", []int{2, 3, 1, 0}},
		{"b z a y", "z||y|", []int{3, 2, 1, 0}},
		{"m k d c b a", "||m|m|k|k", []int{1, 5, 4, 0, 3, 2}},
		// One that needs two, needs the later of them.
		{"a b c d", "b c|||", []int{1, 2, 0, 3}},
		{"a b c d", "c b|d||", []int{2, 3, 1, 0}},
		{"d c b a", "c b|a|a|", []int{3, 2, 1, 0}},
		{"a b c d e f g h", "h|a|b|c|d|e|f|", []int{7, 0, 1, 2, 3, 4, 5, 6}},
		{"h g f e d c b a", "|||||||", []int{7, 6, 5, 4, 3, 2, 1, 0}},
	} {
		checkOrder(t, strings.Fields(c.names), imports(c.needs), c.want, 0, api.OK)
		checkBoth(t, strings.Fields(c.names), imports(c.needs))
	}
	for _, none := range [][]string{nil, {}} {
		for _, needs := range [][][]string{nil, {}, {nil}, {{"a"}}} {
			checkOrder(t, none, needs, nil, 0, api.OK)
		}
	}
}

// 9.1: names are compared byte by byte, whatever they are.
func TestNames(t *testing.T) {
	rising := [][]string{
		{"", "\x00", "\x00\x00", "\x01", "a", "a\x00", "aa", "b"},
		{"A", "B", "Z", "_", "a", "b", "z", "~"},
		{"1", "10", "9", "a1", "a10", "a9", "é", "日"},
		{"\x7f", "\x80", "\xc3", "é", "\xe6", "日", "\xff", "\xff\x00"},
		{"a", strings.Repeat("a", 1000), strings.Repeat("a", 1000) + "a", strings.Repeat("a", 1000) + "b", "b" + strings.Repeat("a", 3000)},
	}
	m := &maker{}
	for _, names := range rising {
		for range 50 {
			mixed := shuffled(m, names)
			var want []int
			for _, name := range names {
				want = append(want, slices.Index(mixed, name))
			}
			checkOrder(t, mixed, nil, want, 0, api.OK)
			// Each imports the next greater one: no other order is left.
			needs := make([][]string, len(names))
			for i, name := range mixed {
				k := slices.Index(names, name)
				needs[i] = names[k+1 : min(k+2, len(names))]
			}
			slices.Reverse(want)
			checkOrder(t, mixed, needs, want, 0, api.OK)
		}
	}
}

// 9.1: places that needs has not, and places behind names.
func TestPlaces(t *testing.T) {
	names := []string{"b", "a"}
	for _, needs := range [][][]string{nil, {}, {nil}, {{}}, {{}, {}}, {nil, nil, {"z"}}, {{}, {}, {"a"}, {"b"}, {"a", "b", ""}}} {
		checkOrder(t, names, needs, []int{1, 0}, 0, api.OK)
		checkBelow(t, names, needs, 0, 0)
		checkBelow(t, names, needs, 1, 1)
		checkBelow(t, names, needs, 2)
	}
	for _, needs := range [][][]string{{nil, {"b"}}, {nil, {"b"}, {"a"}}, {nil, {"b"}, {"z"}, nil}} {
		checkOrder(t, names, needs, []int{0, 1}, 0, api.OK)
		checkBelow(t, names, needs, 1, 0, 1)
	}
	checkOrder(t, names, [][]string{{"a"}}, []int{1, 0}, 0, api.OK)
	checkBelow(t, names, [][]string{{"a"}}, 0, 0, 1)
	checkOrder(t, names, [][]string{{"z"}}, nil, 0, api.ErrName)
}

// 9.1: each error by itself, with the number of a package.
func TestErrors(t *testing.T) {
	for _, c := range []struct {
		names, needs string
		at           int
		want         api.Errno
	}{
		{"a b c d e f g h i", "", 0, api.ErrLimit},
		{"a b c d e f g h", "i", 0, api.ErrName},
		{"a a", "", 1, api.ErrTwice},
		{"a b b a", "", 2, api.ErrTwice},
		{"a b a b", "", 2, api.ErrTwice},
		{"c b d a d d", "", 4, api.ErrTwice},
		{"a b c d e f g a", "", 7, api.ErrTwice},
		{"a b", "z", 0, api.ErrName},
		{"a b c", "|c a z|z", 1, api.ErrName},
		{"c b a", "||A", 2, api.ErrName},
		{"ab b", "a", 0, api.ErrName},
		{"a b", "ab", 0, api.ErrName},
		{"a b", "b|a", 0, api.ErrCycle}, // the chapter's example
		{"a", "a", 0, api.ErrCycle},
		{"a b", "|b", 1, api.ErrCycle},
		{"a b c", "b|c|a", 0, api.ErrCycle},
		{"a b c d", "|c|d|b", 1, api.ErrCycle},
		// The first that is never there needs a ring, but stands on none; its name is not the least.
		{"z a b", "a|b|a", 0, api.ErrCycle},
		{"c d b a", "|b|a|b", 1, api.ErrCycle},
		{"d c b a", "|d|a c|b d", 2, api.ErrCycle},
		// What a ring needs is there.
		{"a b c d", "|a c|a b|", 1, api.ErrCycle},
		{"d c b a", "||c a|b d", 2, api.ErrCycle},
		// Two rings.
		{"e a b c d", "|d|c|b|a", 1, api.ErrCycle},
	} {
		checkOrder(t, strings.Fields(c.names), imports(c.needs), nil, c.at, c.want)
		checkBoth(t, strings.Fields(c.names), imports(c.needs))
	}
	checkOrder(t, []string{"a", "b"}, [][]string{nil, {""}}, nil, 1, api.ErrName)
	checkOrder(t, []string{"a", "", "b", ""}, nil, nil, 3, api.ErrTwice)
	checkOrder(t, []string{"", "b"}, [][]string{{""}}, nil, 0, api.ErrCycle)
}

// 9.1: of several errors the one that stands first in the chapter, wherever its package stands.
func TestFirstError(t *testing.T) {
	for _, c := range []struct {
		names, needs string
		at           int
		want         api.Errno
	}{
		{"a a b c d e f g h", "z|a", 0, api.ErrLimit},
		{"a b c d e f g h i", "a|z", 0, api.ErrLimit},
		{"a b b", "z", 2, api.ErrTwice},
		{"a b b", "a", 2, api.ErrTwice},
		{"a b c c", "b|a|z", 3, api.ErrTwice},
		{"a b c", "a||z", 2, api.ErrName},
		{"a b c d", "b|a|c|d z", 3, api.ErrName},
		{"a b c", "a z", 0, api.ErrName},
	} {
		checkOrder(t, strings.Fields(c.names), imports(c.needs), nil, c.at, c.want)
	}
}

// 9.1: as many packages as there may be, and more.
func TestLimit(t *testing.T) {
	var names []string
	for i := range 300 {
		order, at, e := graph.Order(names, nil)
		if len(names) <= api.MaxPackages && (e != api.OK || at != 0 || len(order) != i) || len(names) > api.MaxPackages && (e != api.ErrLimit || at != 0 || len(order) != 0) {
			t.Errorf("%d packages: %v, %d, %d", i, order, at, e)
		}
		if below := graph.Below(names, nil, 0); (len(below) == 1) != (i > 0 && i <= api.MaxPackages) {
			t.Errorf("%d packages: below the first %v", i, below)
		}
		names = append(names, strconv.Itoa(i))
	}
}

// 9.2: all that a package needs, by rising numbers.
func TestBelow(t *testing.T) {
	names := strings.Fields("e d c b a g f h")
	needs := imports("d c|b|b|a||e|g e|")
	for at, want := range [][]int{{0, 1, 2, 3, 4}, {1, 3, 4}, {2, 3, 4}, {3, 4}, {4}, {0, 1, 2, 3, 4, 5}, {0, 1, 2, 3, 4, 5, 6}, {7}} {
		checkBelow(t, names, needs, at, want...)
	}
	for _, at := range []int{-1, -2, -8, 8, 9, 1 << 31, -1 << 31, math.MaxInt, math.MinInt} {
		checkBelow(t, names, needs, at)
		checkBelow(t, nil, nil, at)
	}
	checkBelow(t, nil, nil, 0)
	checkBelow(t, nil, [][]string{{}}, 0)
	checkBelow(t, []string{"a"}, nil, 0, 0)
}

// 9.2: none of what Order refuses, also where the package has nothing to do with it.
func TestBelowRefused(t *testing.T) {
	for _, c := range []struct{ names, needs string }{
		{"a b c d e f g h i", "b|"}, {"a b c b", "b|"}, {"a b c", "b||z"}, {"a b c", "b||c"}, {"a b c d", "b||d|c"},
	} {
		for at := range len(strings.Fields(c.names)) {
			checkBelow(t, strings.Fields(c.names), imports(c.needs), at)
		}
	}
}

// arrangements hands all orders of a list to f.
func arrangements(list []string, n int, f func()) {
	if n == len(list) {
		f()
		return
	}
	for i := n; i < len(list); i++ {
		list[n], list[i] = list[i], list[n]
		arrangements(list, n+1, f)
		list[n], list[i] = list[i], list[n]
	}
}

// 9.1, 9.2: all that up to three packages can import, under all orders of their names, and all that four can.
func TestAll(t *testing.T) {
	counts := map[api.Errno]int{}
	for n := range 5 {
		names := strings.Fields("a b c d")[:n]
		if n == 4 {
			names = strings.Fields("c a d b")
		}
		each := func() {
			for ways := range 1 << (n * n) {
				needs := make([][]string, n)
				for bit := range n * n {
					if ways>>bit&1 == 1 {
						needs[bit/n] = append(needs[bit/n], names[bit%n])
					}
				}
				counts[checkBoth(t, names, needs)]++
			}
		}
		if n < 4 {
			arrangements(names, 0, each)
		} else {
			each()
		}
	}
	// How many ways there are to import without a ring is known: 1, 1, 3, 25, 543.
	if want := 1 + 1 + 2*3 + 6*25 + 543; counts[api.OK] != want || len(counts) != 2 {
		t.Errorf("what was answered: %v", counts)
	}
}

// 9.1, 9.2: made packages, right ones and others.
func TestMade(t *testing.T) {
	counts := map[api.Errno]int{}
	for round := range 40000 {
		m := &maker{state: uint64(round)}
		names, needs := m.packages()
		if checkBoth(t, names, needs) != api.OK {
			t.Fatalf("refused: %q, %q", names, needs)
		}
		names, needs = m.spoilt()
		counts[checkBoth(t, names, needs)]++
	}
	for _, e := range []api.Errno{api.OK, api.ErrLimit, api.ErrTwice, api.ErrName, api.ErrCycle} {
		if counts[e] < 500 {
			t.Errorf("what was answered: %v", counts)
		}
	}
}

// 9.3: each package stands behind all that it needs, once; what is below it stands there too.
func TestBehind(t *testing.T) {
	for round := range 10000 {
		m := &maker{state: uint64(round) + 1<<40}
		names, needs := m.packages()
		order, _, e := graph.Order(names, needs)
		sorted := slices.Sorted(slices.Values(order))
		if e != api.OK || len(order) != len(names) || len(slices.Compact(sorted)) != len(names) {
			t.Fatalf("Order(%q, %q): %v, %d", names, needs, order, e)
		}
		for place, i := range order {
			for _, need := range needs[i] {
				if k := slices.Index(order, slices.Index(names, need)); k >= place {
					t.Fatalf("Order(%q, %q): %v", names, needs, order)
				}
			}
			for _, k := range graph.Below(names, needs, i) {
				if slices.Index(order, k) > place {
					t.Fatalf("Below(%q, %q, %d) and Order: %d, %v", names, needs, i, k, order)
				}
			}
		}
	}
}

// 9.3: neither the order of names in needs nor doubled ones matter, of what is refused neither.
func TestDoubled(t *testing.T) {
	for round := range 20000 {
		m := &maker{state: uint64(round) + 1<<41}
		names, needs := m.spoilt()
		other := make([][]string, len(needs))
		for i, list := range needs {
			other[i] = slices.Clone(list)
			for range len(list) * m.upTo(4) {
				other[i] = append(other[i], pick(m, list...))
			}
			other[i] = shuffled(m, other[i])
		}
		order, at, e := graph.Order(names, needs)
		checkOrder(t, names, other, order, at, e)
		for at := range names {
			checkBelow(t, names, other, at, graph.Below(names, needs, at)...)
		}
	}
	checkOrder(t, []string{"x", "a", "b"}, [][]string{{"a", "a", "b", "a"}, {"b", "b"}}, []int{2, 1, 0}, 0, api.OK)
	checkOrder(t, []string{"a", "b"}, [][]string{{"b", "b"}}, []int{1, 0}, 0, api.OK)
}

// roomy is a copy of a list with parts behind its length.
func roomy[T any](list []T, behind ...T) []T {
	all := append(slices.Clone(list), behind...)
	return all[:len(list)]
}

// R3: what lies behind lists' lengths is neither read nor written; what is handed in is not changed.
func TestHandedIn(t *testing.T) {
	for round := range 5000 {
		m := &maker{state: uint64(round) + 1<<42}
		names, needs := m.spoilt()
		handed, lists := roomy(names, "a", "junk", "junk"), make([][]string, len(needs))
		for i, list := range needs {
			lists[i] = roomy(list, "junk", "a")
		}
		lists = roomy(lists, []string{"junk"}, []string{"a"}, nil)
		before := fmt.Sprintf("%q, %q", handed[:cap(handed)], whole(lists))
		checkBoth(t, handed, lists)
		order, at, e := graph.Order(names, needs)
		checkOrder(t, handed, lists, order, at, e)
		if after := fmt.Sprintf("%q, %q", handed[:cap(handed)], whole(lists)); after != before {
			t.Fatalf("%s, and after it %s", before, after)
		}
	}
}

// whole is lists with the room behind their lengths as parts of them.
func whole(lists [][]string) [][]string {
	var all [][]string
	for _, list := range lists[:cap(lists)] {
		all = append(all, list[:cap(list)])
	}
	return all
}

// R3: answers share nothing with each other; nil and empty lists are one.
func TestApart(t *testing.T) {
	names, needs := strings.Fields("a b c d"), imports("c|a||b")
	order, _, _ := graph.Order(names, needs)
	below := graph.Below(names, needs, 3)
	for range 3 {
		other, _, _ := graph.Order(names, needs)
		clear(other[:cap(other)])
		other = graph.Below(names, needs, 3)
		clear(other[:cap(other)])
	}
	clear(names)
	clear(needs)
	if !slices.Equal(order, []int{2, 0, 1, 3}) || !slices.Equal(below, []int{0, 1, 2, 3}) {
		t.Errorf("%v, %v", order, below)
	}
}

// R5: the same call answers the same, whatever else was asked.
func TestAgain(t *testing.T) {
	names, needs := strings.Fields("m k d c b a"), imports("||m|m|k|k")
	for range 20 {
		checkOrder(t, []string{"a", "b"}, [][]string{{"b"}, {"a"}}, nil, 0, api.ErrCycle)
		checkOrder(t, names, needs, []int{1, 5, 4, 0, 3, 2}, 0, api.OK)
		checkBelow(t, names, needs, 4, 1, 4)
		checkOrder(t, make([]string, 20), nil, nil, 0, api.ErrLimit)
	}
}

// R1: long lists and long names.
func TestLong(t *testing.T) {
	names := strings.Fields("a b c")
	many := make([]string, 1<<22)
	for i := range many {
		many[i] = names[1+i%2]
	}
	checkLong := func(names []string, needs [][]string, want []int, place int, refusal api.Errno) {
		t.Helper()
		if order, at, e := graph.Order(names, needs); e != refusal || at != place || !slices.Equal(order, want) {
			t.Errorf("%v, %d, %d, want %v, %d, %d", order, at, e, want, place, refusal)
		}
	}
	checkLong(names, [][]string{many}, []int{1, 2, 0}, 0, api.OK)
	checkLong(names, [][]string{nil, nil, many}, nil, 2, api.ErrCycle)
	many[len(many)-1] = "d"
	checkLong(names, [][]string{many}, nil, 0, api.ErrName)
	checkLong(names, make([][]string, 1<<22), []int{0, 1, 2}, 0, api.OK)
	checkLong(many, nil, nil, 0, api.ErrLimit)

	long := strings.Repeat("x", 1<<24)
	checkLong([]string{long + "b", long + "a", long}, [][]string{nil, {long + "b"}}, []int{2, 0, 1}, 0, api.OK)
	checkLong([]string{long + "b", long + "a", strings.Clone(long) + "b"}, nil, nil, 2, api.ErrTwice)
	checkLong([]string{long + "b", long + "a"}, [][]string{{long + "a"}, {long + "c"}}, nil, 1, api.ErrName)
}
