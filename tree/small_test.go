package tree_test

import (
	"reflect"
	"strings"
	"testing"

	"mortise/api"
	"mortise/tree"
)

// sums is an expression of 2n + 1 parts.
func sums(n int, e api.MExpr) api.MExpr {
	for range n {
		e = bin(api.Add, e, num(1))
	}
	return e
}

// TestSmallOnes: which functions are small (15.2).
func TestSmallOnes(t *testing.T) {
	for i, c := range []struct {
		is bool
		l  []api.MStat
	}{
		{true, list(ret(num(1)))}, {true, list(ret(sums(5, loc(0))))}, {true, list(ret(un(api.Neg, sums(4, loc(0)))))}, {false, list(ret(un(api.Neg, sums(5, loc(0)))))}, {false, list(ret(sums(6, num(1))))},
		{false, nil}, {false, list(ret())}, {false, list(ret(num(1)), ret(num(1)))}, {false, list(do(num(1)))}, {false, list(set(0, num(1)))}, {false, list(trap(1))}, {false, list(out(num(1)))}, {false, list(loop(ret(num(1))))},
		{false, list(when(num(1), list(ret(num(1)))))}, {false, list(store(0, num(1), num(1)))}, {false, list(ret(num(1)), loop())},
		{false, list(ret(call("g")))}, {false, list(ret(at(code("g"))))}, {false, list(ret(check(1, num(1), num(1))))}, {false, list(ret(alloc(num(1))))}, {false, list(ret(in()))},
		{false, list(ret(un(api.Neg, call("g"))))}, {false, list(ret(bin(api.Add, num(1), at(num(1)))))}, {false, list(ret(cond(num(1), num(1), check(1, num(1), num(1)))))}, {false, list(ret(load(0, alloc(num(1)))))}, {false, list(ret(un(api.Neg, un(api.Neg, in()))))},
		{true, list(ret(cond(loc(0), data("d"), code("f"))))}, {true, list(ret(load(7, data("d"))))}, {true, list(ret(bin(api.Div, num(1), num(0))))}, {true, list(ret(loc(2)))},
	} {
		for _, f := range []api.MFunc{fn("f", 1, 3, c.l...), weak(fn("f", 1, 3, c.l...))} {
			got := tree.Small(funcs(f))
			if c.is && !reflect.DeepEqual(got, list(f)) || !c.is && len(got) != 0 {
				t.Errorf("15.2: case %d: %+v", i, got)
			}
		}
	}
}

// TestSmallOfModules: in order; none of what is not valid (15.2).
func TestSmallOfModules(t *testing.T) {
	var l, want []api.MFunc
	for i := range 12 {
		f := fn(strings.Repeat("f", i+1), 0, 0, many(1+i%2, ret(num(int64(i))))...)
		l = append(l, f)
		if i%2 == 0 {
			want = append(want, f)
		}
	}
	m := api.Module{Pkg: "p", Funcs: l, Datas: list(words("d", 1))}
	if got := tree.Small(m); !reflect.DeepEqual(got, want) {
		t.Errorf("15.2: %+v", got)
	}
	for i, bad := range []api.MFunc{fn("", 0, 0), fn("f", 0, 0), fn("g", 0, 0, ret(loc(0))), fn("g", 0, 0, many(20000, ret())...)} {
		if got := tree.Small(funcs(append(l[:12:12], bad)...)); len(got) != 0 {
			t.Errorf("15.2: not valid, case %d: %+v", i, got)
		}
	}
	m.Datas = append(m.Datas, words("d"))
	if got := tree.Small(m); len(got) != 0 {
		t.Errorf("15.2: bad datas: %+v", got)
	}
	if got := tree.Small(api.Module{}); len(got) != 0 {
		t.Errorf("15.2: of nothing: %+v", got)
	}
}

// TestSize: all statements and expressions count, wherever they are (15.1).
func TestSize(t *testing.T) {
	for i, c := range []struct {
		want int
		l    []api.MStat
	}{
		{0, nil}, {1, list(ret())}, {2, list(ret(num(1)))}, {4, list(ret(bin(api.Add, loc(0), num(1))))}, {3, list(ret(), loop(brk(0)))},
		{6, list(when(num(1), list(ret(), ret()), ret(num(1))))}, {4, list(store(0, num(1), un(api.Neg, num(1))))}, {8, list(do(at(num(1), num(2), cond(num(1), num(2), num(3)))))},
		{5, list(do(call("f", num(1), num(2), num(3))))}, {25000, many(25000, ret())}, {100, list(brkFree(100))}, {101, list(do(deepExpr(100, num(1))))}, {65000, list(brkFree(65000))}, {65001, list(do(deepExpr(65000, num(1))))},
		{8, list(api.MStat{Op: 99, Exprs: list(num(1), api.MExpr{Op: -1, Kids: list(num(1))}), Body: list(api.MStat{}), Else: list(api.MStat{}, ret(num(1)))})},
	} {
		if n := tree.Size(api.MFunc{Name: "f", Body: c.l}); n != c.want {
			t.Errorf("15.1: size %d: %d, want %d", i, n, c.want)
		}
	}
}
