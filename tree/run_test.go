package tree_test

import (
	"bytes"
	"math"
	"strings"
	"testing"

	"mortise/api"
	"mortise/tree"
)

// ends is what a run is asked to come to.
type ends struct {
	kind  int
	code  int
	out   string
	steps int
}

func expectRun(t *testing.T, what string, o api.Outcome, want ends) {
	t.Helper()
	if got := (ends{o.Kind, o.Code, string(o.Out), o.Steps}); got != want {
		if len(got.out) > 100 {
			got.out = got.out[:100]
		}
		t.Errorf("%s: %+v, want %+v", what, got, want)
	}
}

// play runs main, with 20 words of memory and two bytes of input.
func play(fuel int, ms ...api.Module) api.Outcome {
	return tree.Run(ms, list("main"), 20, []byte("ab"), fuel)
}

// bad is an expression that ends the run when it is begun, in one step and two for its kids.
func bad(code int64) api.MExpr { return check(code, num(0), num(0)) }

// TestExprs: what each expression is, and how many steps it takes (15.3).
func TestExprs(t *testing.T) {
	const least, most = math.MinInt64, math.MaxInt64
	for i, c := range []struct {
		e    api.MExpr
		want ends
	}{
		{num(300), ends{out: ",", steps: 2}},
		{num(-1), ends{out: "\xff", steps: 2}},
		{loc(2), ends{out: "\x00", steps: 2}},
		{bin(api.Sub, num(70), num(5)), ends{out: "A", steps: 4}},
		{bin(api.Mul, num(most), num(2)), ends{out: "\xfe", steps: 4}},
		{bin(api.Div, num(least), num(-1)), ends{out: "\x00", steps: 4}},
		{bin(api.Shr, num(-1), num(200)), ends{out: "\xff", steps: 4}},
		{bin(api.Div, num(1), num(0)), ends{api.RunPanic, api.PanicZero, "", 4}},
		{bin(api.Rem, num(0), num(0)), ends{api.RunPanic, api.PanicZero, "", 4}},
		{bin(api.Div, bad(7), bad(8)), ends{api.RunPanic, 7, "", 4}},
		{bin(api.Div, num(1), bad(8)), ends{api.RunPanic, 8, "", 5}},
		{un(api.Neg, num(1)), ends{out: "\xff", steps: 3}},
		{un(api.Flip, num(1)), ends{out: "\xfe", steps: 3}},
		{un(api.Bang, num(0)), ends{out: "\x01", steps: 3}},
		{in(), ends{out: "a", steps: 2}},
		{bin(api.Sub, in(), in()), ends{out: "\xff", steps: 4}},
		{bin(api.Add, bin(api.Mul, in(), num(0)), bin(api.Sub, in(), in())), ends{out: "c", steps: 8}},
		{cond(num(0), bad(5), num(66)), ends{out: "B", steps: 4}},
		{cond(num(least), num(66), bad(5)), ends{out: "B", steps: 4}},
		{cond(bad(6), num(66), bad(5)), ends{api.RunPanic, 6, "", 4}},
		{check(999, num(0), bad(5)), ends{api.RunPanic, 999, "", 3}},
		{check(1, num(-3), num(67)), ends{out: "C", steps: 4}},
		{check(1, bad(2), bad(3)), ends{api.RunPanic, 2, "", 4}},
		{data("d"), ends{out: "\x01", steps: 2}},
		{data("e"), ends{out: "\x04", steps: 2}},
		{data("g"), ends{out: "\x04", steps: 2}},
		{data("f"), ends{kind: api.RunFault, steps: 2}},
		{data("D"), ends{kind: api.RunFault, steps: 2}},
		{code("main"), ends{out: "\x01", steps: 2}},
		{code("f"), ends{out: "\x02", steps: 2}},
		{code("g"), ends{out: "\x03", steps: 2}},
		{code("d"), ends{kind: api.RunFault, steps: 2}},
	} {
		if c.want.kind == 0 {
			c.want.kind = api.RunDone
		}
		m := funcs(fn("main", 0, 3, out(c.e)), fn("f", 2, 3, ret(bin(api.Sub, loc(0), loc(1)))), fn("g", 0, 0))
		m.Datas = list(words("d", 3, 4, 5), words("e"), words("g", 6))
		o := play(999, m)
		expectRun(t, string(rune('0'+i))+": 15.3", o, c.want)
	}
}

// TestCalls: by name and by number, with as many arguments as Params (15.3).
func TestCalls(t *testing.T) {
	most := many(16, num(1))
	sum := num(0)
	for i := range 16 {
		sum = bin(api.Add, sum, loc(int64(i)))
	}
	for i, c := range []struct {
		e    api.MExpr
		want ends
	}{
		{call("two", num(70), num(5)), ends{api.RunDone, 0, "A", 8}},
		{call("two", in(), in()), ends{api.RunDone, 0, "\xff", 8}},
		{call("two", num(1)), ends{api.RunFault, 0, "", 3}},
		{call("two", num(1), num(2), num(3)), ends{api.RunFault, 0, "", 5}},
		{call("two", bad(4)), ends{api.RunPanic, 4, "", 4}},
		{call("none"), ends{api.RunDone, 0, "\x00", 2}},
		{call("none", num(1)), ends{api.RunFault, 0, "", 3}},
		{call("there is none", bad(4)), ends{api.RunPanic, 4, "", 4}},
		{call("there is none", num(4)), ends{api.RunFault, 0, "", 3}},
		{call("d"), ends{api.RunFault, 0, "", 2}},
		{call("most", most...), ends{api.RunDone, 0, "\x10", 2 + 16 + 34}},
		{call("most", most[1:]...), ends{api.RunFault, 0, "", 2 + 15}},
		{at(append(list(code("most")), most...)...), ends{api.RunDone, 0, "\x10", 3 + 16 + 34}},
		{at(code("two"), num(70), num(5)), ends{api.RunDone, 0, "A", 9}},
		{at(num(2), num(70), num(5)), ends{api.RunDone, 0, "A", 9}},
		{at(code("two"), num(70)), ends{api.RunFault, 0, "", 4}},
		{at(code("none")), ends{api.RunDone, 0, "\x00", 3}},
		{at(num(0)), ends{api.RunFault, 0, "", 3}},
		{at(num(-1)), ends{api.RunFault, 0, "", 3}},
		{at(num(6)), ends{api.RunFault, 0, "", 3}},
		{at(num(math.MinInt64)), ends{api.RunFault, 0, "", 3}},
		{at(num(math.MaxInt64)), ends{api.RunFault, 0, "", 3}},
		{at(num(1<<32+3), num(1)), ends{api.RunFault, 0, "", 4}},
		{at(num(9), bad(4)), ends{api.RunPanic, 4, "", 5}},
		{at(bad(5), bad(4)), ends{api.RunPanic, 5, "", 4}},
		{bin(api.Add, call("keeps", num(4)), call("keeps", num(5))), ends{api.RunDone, 0, "\x09", 4 + 2*6 + 2}},
	} {
		m := funcs(fn("main", 0, 3, out(c.e)), fn("two", 2, 3, ret(bin(api.Sub, loc(0), loc(1)))), fn("none", 0, 1), fn("most", 16, 16, ret(sum)),
			// What another call set is not there.
			fn("keeps", 1, 2, set(1, bin(api.Add, loc(0), loc(1))), ret(loc(1))))
		m.Datas = list(words("d", 3))
		expectRun(t, "15.3: call "+string(rune('0'+i)), play(999, m), c.want)
	}
}

// TestMemory: which words there are, and what EAlloc takes (15.3); 20 words, of which three are datas'.
func TestMemory(t *testing.T) {
	const most = math.MaxInt64
	fault := func(steps int, s string) ends { return ends{api.RunFault, 0, s, steps} }
	for i, c := range []struct {
		l    []api.MStat
		want ends
	}{
		{list(out(load(0, num(1))), out(load(2, num(1))), out(load(3, num(0)))), ends{api.RunDone, 0, "\x03\x05\x05", 9}},
		{list(out(load(0, num(0)))), fault(3, "")},
		{list(out(load(1, num(-1)))), fault(3, "")},
		{list(out(load(9, num(-7)))), ends{api.RunDone, 0, "\x04", 3}},
		{list(out(load(0, num(4)))), fault(3, "")},
		{list(out(load(4, num(0)))), fault(3, "")},
		{list(out(load(1<<31-1, num(most)))), fault(3, "")},
		{list(out(load(1<<31-1, num(2-1<<31)))), ends{api.RunDone, 0, "\x03", 3}},
		{list(out(load(0, num(1<<32+1)))), fault(3, "")},
		{list(out(load(0, num(math.MinInt64)))), fault(3, "")},
		{list(store(1, num(1), num(65)), out(load(0, num(2)))), ends{api.RunDone, 0, "A", 6}},
		{list(store(0, num(4), num(65))), fault(3, "")},
		{list(store(0, num(0), num(65))), fault(3, "")},
		{list(store(1<<31-1, num(most), num(65))), fault(3, "")},
		{list(store(0, num(0), bad(7))), ends{api.RunPanic, 7, "", 4}},
		{list(store(0, bad(6), bad(7))), ends{api.RunPanic, 6, "", 3}},
		{list(store(0, alloc(num(1)), load(0, num(4))), out(load(0, num(4)))), ends{api.RunDone, 0, "\x00", 8}},
		{list(set(0, alloc(num(2))), out(loc(0)), out(load(0, loc(0))), store(1, loc(0), num(65)), out(load(1, loc(0))), out(load(2, loc(0)))), fault(17, "\x04\x00A")},
		{list(out(alloc(num(0))), out(alloc(num(0))), out(load(0, num(4)))), fault(9, "\x04\x04")},
		{list(out(alloc(num(16))), out(alloc(num(0))), out(load(15, num(4))), out(alloc(num(1)))), ends{api.RunMemory, 0, "\x04\x14\x00", 12}},
		{list(out(alloc(num(16))), store(0, num(19), num(65)), out(load(0, num(19))), out(load(0, num(20)))), fault(12, "\x04A")},
		{list(do(alloc(num(17)))), ends{api.RunMemory, 0, "", 3}},
		{list(do(alloc(num(most)))), ends{api.RunMemory, 0, "", 3}},
		{list(do(alloc(num(1 << 32)))), ends{api.RunMemory, 0, "", 3}},
		{list(do(alloc(num(-1)))), fault(3, "")},
		{list(do(alloc(num(math.MinInt64)))), fault(3, "")},
	} {
		m := mainOf(c.l...)
		m.Datas = list(words("d", 3, 4, 5))
		expectRun(t, "15.3: memory "+string(rune('0'+i)), play(999, m), c.want)
	}
}

// TestStats: each statement, with its steps, and where breaks lead (15.3).
func TestStats(t *testing.T) {
	count := func(n int64) []api.MStat {
		return list(set(0, bin(api.Add, loc(0), num(1))), when(bin(api.Gt, loc(0), num(n)), list(ret())))
	}
	for i, c := range []struct {
		l    []api.MStat
		want ends
	}{
		{nil, ends{api.RunDone, 0, "", 0}},
		{list(trap(5)), ends{api.RunPanic, 5, "", 1}},
		{list(out(num(65)), trap(999), out(num(66))), ends{api.RunPanic, 999, "A", 3}},
		{list(when(num(7), list(out(num(65))), out(num(66)))), ends{api.RunDone, 0, "A", 4}},
		{list(when(num(0), list(out(num(65))), out(num(66)), out(num(67)))), ends{api.RunDone, 0, "BC", 6}},
		{list(when(num(0), list(out(num(65))))), ends{api.RunDone, 0, "", 2}},
		{list(ret(), out(num(65))), ends{api.RunDone, 0, "", 1}},
		{list(when(num(1), list(loop(loop(ret(num(4))))), trap(1)), trap(2)), ends{api.RunDone, 0, "", 2 + 2 + 2 + 2}},
		{list(loop(brk(0)), out(num(65))), ends{api.RunDone, 0, "A", 5}},
		{list(loop(out(num(65)), when(num(1), list(brk(0))), trap(1)), out(num(66))), ends{api.RunDone, 0, "AB", 9}},
		{list(loop(loop(brk(1)), trap(1)), out(num(65))), ends{api.RunDone, 0, "A", 7}},
		{list(loop(loop(brk(0)), out(num(65)), brk(0)), out(num(66))), ends{api.RunDone, 0, "AB", 10}},
		{list(loop(loop(loop(brk(2)), trap(1)), trap(2)), out(num(65))), ends{api.RunDone, 0, "A", 9}},
		{list(loop(loop(loop(brk(1)), trap(1)), out(num(65)), brk(0)), out(num(66))), ends{api.RunDone, 0, "AB", 12}},
		{list(loop(append(count(2), next(0), trap(1))...)), ends{api.RunDone, 0, "", 1 + 3*9 + 2*1 + 1}},
		{list(loop(append(count(2), loop(next(1)), trap(1))...)), ends{api.RunDone, 0, "", 1 + 3*9 + 2*3 + 1}},
		{list(loop(append(count(2), loop(loop(next(2)), trap(3)), trap(1))...)), ends{api.RunDone, 0, "", 1 + 3*9 + 2*5 + 1}},
		{list(loop(append(count(1), when(num(0), nil, next(0)), trap(1))...)), ends{api.RunDone, 0, "", 1 + 2*9 + 3 + 1}},
		{list(loop(append(count(2), out(loc(0)))...)), ends{api.RunDone, 0, "\x01\x02", 1 + 3*9 + 2*2 + 1}},
		{list(loop()), ends{api.RunFuel, 0, "", 999}},
		{list(loop(loop(next(1)))), ends{api.RunFuel, 0, "", 999}},
		{list(set(2, num(65)), out(loc(2)), out(loc(1))), ends{api.RunDone, 0, "A\x00", 6}},
	} {
		expectRun(t, "15.3: statement "+string(rune('0'+i)), play(999, mainOf(c.l...)), c.want)
	}
}

// TestAnswers: what a function answers, and that it answers 0 where it does not say (15.3).
func TestAnswers(t *testing.T) {
	for i, c := range []struct {
		l    []api.MStat
		want string
	}{
		{nil, "\x00"}, {list(ret()), "\x00"}, {list(ret(num(65))), "A"}, {list(set(0, num(65))), "\x00"},
		{list(loop(loop(ret(num(65))))), "A"}, {list(when(num(0), nil, ret(num(65))), ret(num(66))), "A"}, {list(do(num(65))), "\x00"},
		{list(loop(when(num(1), list(brk(0))), ret(num(65))), ret(num(66))), "B"},
	} {
		m := funcs(fn("main", 0, 0, out(call("f"))), fn("f", 0, 1, c.l...))
		if o := play(999, m); o.Kind != api.RunDone || string(o.Out) != c.want {
			t.Errorf("15.3: answer %d: %+v", i, o)
		}
	}
}

// TestInOut: bytes that are read, and behind the last one; bytes that are kept (15.3).
func TestInOut(t *testing.T) {
	text := bytes.Repeat([]byte{0, 255, 7, 128}, api.MaxIn/4)
	m := mainOf(loop(set(0, in()), out(loc(0)), when(bin(api.Lt, loc(0), num(0)), list(brk(0)))), out(in()))
	for _, n := range []int{0, 1, 5, api.MaxIn - 1} {
		o := tree.Run(list(m), list("main"), 1, text[:n], api.MaxFuel)
		expectRun(t, "15.3: in", o, ends{api.RunDone, 0, string(text[:n]) + "\xff\xff"[:min(2, api.MaxOut-n)], 1 + 9*(n+1) + 3})
	}
	o := tree.Run(list(m), list("main"), 1, text, api.MaxFuel)
	expectRun(t, "15.3: out", o, ends{api.RunDone, 0, string(text), 1 + 9*(api.MaxIn+1) + 3})
	m = mainOf(loop(out(num(65))))
	o = tree.Run(list(m), list("main"), 1, nil, 3*(api.MaxOut+1)+1)
	expectRun(t, "15.3: out", o, ends{api.RunFuel, 0, strings.Repeat("A", api.MaxOut), 3*(api.MaxOut+1) + 1})
}

// TestRefused: what ends at once, with nothing else (15.3).
func TestRefused(t *testing.T) {
	good := mainOf(out(num(65)))
	text := make([]byte, api.MaxIn+1)
	begin := list("main")
	for i, c := range []struct {
		o    api.Outcome
		good bool
	}{
		{tree.Run(list(good), begin, 1, text[1:], 99), true}, {tree.Run(list(good), begin, api.MaxMem, nil, 99), true},
		{tree.Run(list(good), begin, 0, nil, 99), false}, {tree.Run(list(good), begin, -1, nil, 99), false}, {tree.Run(list(good), begin, math.MinInt, nil, 99), false},
		{tree.Run(list(good), begin, api.MaxMem+1, nil, 99), false}, {tree.Run(list(good), begin, math.MaxInt, nil, 99), false}, {tree.Run(list(good), begin, 1, text, 99), false},
		{tree.Run(list(good, funcs(fn("", 0, 0))), begin, 1, nil, 99), false}, {tree.Run(list(datas(words("d", text64...)), good), begin, 9999, nil, 99), false},
		{tree.Run(list(good, mainOf(brk(0))), begin, 1, nil, 99), false}, {tree.Run(nil, nil, 0, nil, 99), false}, {tree.Run(nil, nil, 1, nil, 99), true},
	} {
		switch {
		case c.good && c.o.Kind != api.RunDone:
			t.Errorf("15.3: taken, case %d: %+v", i, c.o)
		case !c.good:
			expectRun(t, "15.3: refused", c.o, ends{kind: api.RunFault})
		}
	}
}

// text64 are more words than a module has.
var text64 = make([]int64, api.MaxData+1)

// TestBegin: the functions that begin names are called in order, each without arguments (15.3).
func TestBegin(t *testing.T) {
	ms := list(funcs(fn("a", 0, 0, out(num(65)), ret(num(1))), fn("p", 1, 1, out(num(80)))), funcs(fn("b", 0, 1, out(num(66)), set(0, bad(9)))))
	ms[0].Datas = list(words("d"))
	for i, c := range []struct {
		begin []string
		want  ends
	}{
		{nil, ends{api.RunDone, 0, "", 0}}, {list("a"), ends{api.RunDone, 0, "A", 4}}, {list("a", "a"), ends{api.RunDone, 0, "AA", 8}},
		{list("a", "b", "a"), ends{api.RunPanic, 9, "AB", 9}}, {list("a", "p"), ends{api.RunFault, 0, "A", 4}}, {list("a", "q", "b"), ends{api.RunFault, 0, "A", 4}},
		{list("a", "d"), ends{api.RunFault, 0, "A", 4}}, {list("", "a"), ends{api.RunFault, 0, "", 0}},
	} {
		expectRun(t, "15.3: begin "+string(rune('0'+i)), tree.Run(ms, c.begin, 5, nil, 99), c.want)
	}
	o := tree.Run(list(funcs(fn("e", 0, 0))), many(100000, "e"), 5, nil, -1)
	expectRun(t, "15.3: begin without steps", o, ends{kind: api.RunDone})
}

// TestCount: which function and which datas of a name count, and their numbers and places (15.3, 15.4).
func TestCount(t *testing.T) {
	f := func(name string, n int64) api.MFunc { return fn(name, 0, 0, ret(num(n))) }
	d := func(name string, weak bool, l ...int64) api.MData { return api.MData{Name: name, Weak: weak, Words: l} }
	show := mainOf(out(call("f")), out(code("f")), out(code("g")), out(code("main")), out(data("x")), out(load(0, data("x"))), out(data("y")))
	for i, c := range []struct {
		ms   []api.Module
		want string
	}{
		{list(show, funcs(f("f", 1), f("g", 1)), datas(d("x", false, 8), d("y", false))), "\x01\x02\x03\x01\x01\x08\x02"},
		{list(funcs(weak(f("f", 1)), f("g", 1)), datas(d("x", false, 8), d("y", false)), show), "\x01\x01\x02\x03\x01\x08\x02"},
		{list(funcs(weak(f("f", 1)), f("g", 1)), funcs(weak(f("f", 2)), weak(f("g", 2))), datas(d("x", true, 8), d("y", true)), datas(d("y", true, 1), d("x", true, 9, 9)), show), "\x01\x01\x02\x03\x01\x08\x02"},
		{list(funcs(weak(f("f", 1)), f("g", 1)), funcs(weak(f("f", 2)), f("g", 2)), funcs(f("f", 3)), funcs(f("f", 4)), datas(d("x", true, 8), d("y", true)), datas(d("y", false, 1), d("x", false, 9, 9)), datas(d("x", false, 7)), show), "\x03\x02\x01\x03\x02\x09\x01"},
		{list(funcs(f("f", 1)), datas(d("x", false, 8)), funcs(weak(f("f", 2)), f("g", 2)), datas(d("x", true, 9, 9), d("y", true)), show), "\x01\x01\x02\x03\x01\x08\x02"},
	} {
		o := play(999, c.ms...)
		if o.Kind != api.RunDone || string(o.Out) != c.want {
			t.Errorf("15.3: what counts, case %d: %+v", i, o)
		}
	}
}

// TestRefs: a word at a Ref is a place, or a number, or 0 (15.3).
func TestRefs(t *testing.T) {
	m := mainOf()
	for i := range 9 {
		m.Funcs[0].Body = append(m.Funcs[0].Body, out(load(0, num(int64(i+1)))))
	}
	m.Funcs = append(m.Funcs, fn("f", 0, 0), fn("both", 0, 0))
	m.Datas = list(
		api.MData{Name: "d", Words: list[int64](100, 101, 102, 103, 104, 105), Refs: list(api.Ref{At: 4, Name: "d"}, api.Ref{At: 0, Name: "last"}, api.Ref{At: 1, Name: "f"}, api.Ref{At: 5, Name: "both"}, api.Ref{At: 2, Name: "nobody"})},
		api.MData{Name: "both", Words: list[int64](106), Refs: list(api.Ref{Name: "empty"})}, words("empty"), words("last", 107, 108))
	expectRun(t, "15.3: refs", play(999, m), ends{api.RunDone, 0, "\x08\x02\x00g\x01\x07\x08kl", 27})
	// Of datas that do not count nothing is laid.
	first := datas(words("d", 1, 2))
	m = datas(api.MData{Name: "d", Weak: true, Words: list[int64](5, 6), Refs: list(api.Ref{At: 0, Name: "main"})})
	m.Funcs = list(fn("main", 0, 0, out(load(0, num(1))), out(load(0, num(2))), out(load(0, num(3)))))
	expectRun(t, "15.3: refs of what does not count", play(999, m, first), ends{api.RunFault, 0, "\x01\x02", 9})
}

// TestRoom: memory has room for the datas, or the run ends ahead of all calls (15.3).
func TestRoom(t *testing.T) {
	for mem := 1; mem < 10; mem++ {
		m := mainOf(out(num(65)))
		m.Datas = list(words("d", 1, 2), words("e", 3, 4, 5))
		want := ends{api.RunDone, 0, "A", 2}
		if mem < 6 {
			want = ends{kind: api.RunMemory}
		}
		expectRun(t, "15.3: room", tree.Run(list(m), list("main"), mem, nil, 99), want)
		if mem < 6 {
			expectRun(t, "15.3: no room, and no function", tree.Run(list(m), list("none"), mem, nil, 99), want)
		}
	}
	var ms []api.Module
	for i := range 16 {
		ms = append(ms, datas(words(string(rune('a'+i)), make([]int64, api.MaxData)...)))
	}
	expectRun(t, "15.3: too many words", tree.Run(ms, nil, api.MaxMem, nil, 99), ends{kind: api.RunMemory})
	ms[3].Datas[0].Words = make([]int64, api.MaxData-1)
	expectRun(t, "15.3: all words", tree.Run(ms, nil, api.MaxMem, nil, 99), ends{kind: api.RunDone})
}

// deep is a module whose f calls itself n times, each call at the bottom of the deepest tree there may be.
func deep(last api.MStat) api.Module {
	again := deepExpr(api.MaxDepth-50, call("f", bin(api.Sub, loc(0), num(1))))
	return funcs(fn("f", 1, 1, deepStat(48, when(loc(0), list(do(again), ret()), last)), trap(3)), fn("none", 0, 0), fn("one", 1, 1))
}

// TestStack: 1200 calls may be open, those that begin names too; what faults faults ahead (15.3).
func TestStack(t *testing.T) {
	for i, c := range []struct {
		n    int64
		last api.MStat
		kind int
	}{
		{1199, ret(), api.RunStack}, {1198, ret(), api.RunDone}, {1198, do(call("none")), api.RunStack}, {1197, do(call("none")), api.RunDone},
		{1198, do(call("no")), api.RunFault}, {1198, do(call("one")), api.RunFault}, {1198, do(call("none", num(1))), api.RunFault},
		{1198, do(at(num(0))), api.RunFault}, {1198, do(at(code("one"))), api.RunFault}, {1198, do(at(code("none"))), api.RunStack}, {1198, do(call("none", bad(1))), api.RunPanic},
		{1197, do(at(code("none"))), api.RunDone},
	} {
		m := deep(when(num(0), nil, c.last, ret()))
		ms := list(funcs(fn("main", 0, 0, do(call("f", num(c.n))))), m)
		if o := tree.Run(ms, list("main"), 1, nil, api.MaxFuel); o.Kind != c.kind {
			t.Errorf("15.3: stack %d: %+v", i, o)
		}
	}
	// A call that is over is open no more.
	m := mainOf(loop(set(0, bin(api.Add, loc(0), num(1))), do(call("f", num(1000))), when(bin(api.Eq, loc(0), num(3)), list(ret()))))
	if o := tree.Run(list(m, deep(ret())), list("main", "main"), 1, nil, api.MaxFuel); o.Kind != api.RunDone {
		t.Errorf("15.3: stack that is used again: %d after %d", o.Kind, o.Steps)
	}
}

// TestFuel: with each fuel a run is a beginning of the whole one (15.3, 15.4).
func TestFuel(t *testing.T) {
	f := fn("f", 2, 2, out(loc(0)), ret(cond(loc(1), in(), num(7))))
	l := list(set(0, num(3)), loop(out(call("f", loc(0), num(0))), when(bin(api.Eq, loc(0), num(0)), list(brk(0))), set(0, bin(api.Sub, loc(0), num(1))), next(0)), store(0, alloc(num(2)), check(4, in(), in())), trap(6))
	for i, m := range []api.Module{mainOf(l...), mainOf(append(l[:3:3], ret())...), mainOf(append(l[:3:3], do(load(0, num(0))))...), mainOf(append(l[:3:3], do(alloc(num(99))))...), mainOf(append(l[:3:3], do(call("main")))...)} {
		m.Funcs = append(m.Funcs, f)
		whole := play(api.MaxFuel, m)
		if whole.Kind == api.RunFuel || whole.Steps < 40 {
			t.Fatalf("15.4: case %d: %+v", i, whole)
		}
		for fuel := -2; fuel < whole.Steps+3; fuel++ {
			o := play(fuel, m)
			if fuel >= whole.Steps {
				expectRun(t, "15.4: enough", o, ends{whole.Kind, whole.Code, string(whole.Out), whole.Steps})
				continue
			}
			if o.Kind != api.RunFuel || o.Code != 0 || o.Steps != max(fuel, 0) || !bytes.HasPrefix(whole.Out, o.Out) {
				t.Errorf("15.4: case %d with %d: %+v", i, fuel, o)
			}
		}
	}
	endless := mainOf(loop())
	for _, fuel := range []int{api.MaxFuel - 1, api.MaxFuel, api.MaxFuel + 1, math.MaxInt} {
		expectRun(t, "15.3: most fuel", play(fuel, endless), ends{kind: api.RunFuel, steps: min(fuel, api.MaxFuel)})
	}
	expectRun(t, "15.3: least fuel", play(math.MinInt, endless), ends{kind: api.RunFuel})
}
