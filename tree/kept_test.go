package tree_test

import (
	"reflect"
	"testing"

	"mortise/api"
	"mortise/tree"
)

// roomy is a copy whose lists each have room behind their ends, in which something stands that is not of them.
func roomy(ms []api.Module) []api.Module {
	l := spare(ms, func(m api.Module) api.Module {
		m.Funcs = spare(m.Funcs, func(f api.MFunc) api.MFunc {
			f.Body = spareStats(f.Body)
			return f
		}, api.MFunc{Name: "?"})
		m.Datas = spare(m.Datas, func(d api.MData) api.MData {
			d.Words = spare(d.Words, func(n int64) int64 { return n }, 77)
			d.Refs = spare(d.Refs, func(r api.Ref) api.Ref { return r }, api.Ref{At: -5})
			return d
		}, api.MData{Name: "?"})
		return m
	}, api.Module{Pkg: "?", Funcs: many(1, api.MFunc{})})
	return l
}

func spare[T any](l []T, of func(T) T, behind T) []T {
	var made []T
	for _, x := range l {
		made = append(made, of(x))
	}
	return append(made, behind, behind)[:len(made)]
}

func spareStats(l []api.MStat) []api.MStat {
	return spare(l, func(s api.MStat) api.MStat {
		s.Exprs, s.Body, s.Else = spareExprs(s.Exprs), spareStats(s.Body), spareStats(s.Else)
		return s
	}, api.MStat{Op: -1})
}

func spareExprs(l []api.MExpr) []api.MExpr {
	return spare(l, func(e api.MExpr) api.MExpr {
		e.Kids = spareExprs(e.Kids)
		return e
	}, api.MExpr{Op: -1})
}

// TestKept: nothing that is handed in is changed, nor read behind its end (R3).
func TestKept(t *testing.T) {
	for seed := range 200 {
		m := &maker{state: uint64(seed) + 1<<60}
		ms := m.program()
		given, same := roomy(ms), roomy(ms)
		begin, text := append(list("main"), "f0")[:1], []byte("abcdef")
		o := tree.Run(given, begin, 200, text[:3], 3000)
		if want := tree.Run(ms, list("main"), 200, []byte("abc"), 3000); !reflect.DeepEqual(o, want) {
			t.Fatalf("R3: seed %d: %+v, want %+v", seed, o, want)
		}
		for _, x := range given {
			if e := tree.Valid(x); e != api.OK {
				t.Fatalf("R3: seed %d: %d", seed, e)
			}
			tree.Small(x)
			for _, f := range x.Funcs {
				tree.Size(f)
			}
		}
		if !reflect.DeepEqual(given, same) || !reflect.DeepEqual(given[:len(given)+1], same[:len(same)+1]) || string(text) != "abcdef" || begin[:2][1] != "f0" {
			t.Fatalf("R3: seed %d: what was handed in is changed", seed)
		}
	}
}

// TestShares: what Small and Run answer shares nothing with anything else (R3).
func TestShares(t *testing.T) {
	l := roomy(list(funcs(fn("f", 1, 1, ret(bin(api.Add, loc(0), load(1, data("d"))))), fn("g", 0, 0, ret(num(1))))))
	first, second := tree.Small(l[0]), tree.Small(l[0])
	spoil(first)
	if want := tree.Small(roomy(l)[0]); !reflect.DeepEqual(second, want) || !reflect.DeepEqual(tree.Small(l[0]), want) {
		t.Error("R3: one answer of Small changes another one")
	}
	m := mainOf(out(num(65)))
	o := tree.Run(list(m), list("main"), 1, nil, 9)
	o.Out[0] = 66
	if o = tree.Run(list(m), list("main"), 1, nil, 9); string(o.Out) != "A" {
		t.Error("R3: one run changes another one")
	}
}

// spoil changes all that lists hold, to the ends of their room.
func spoil(l []api.MFunc) {
	l = l[:cap(l)]
	for i := range l {
		for k := range l[i].Body {
			s := &l[i].Body[:cap(l[i].Body)][k]
			spoilExprs(s.Exprs)
			s.Op = -1
		}
		l[i].Body = append(l[i].Body, ret())
		l[i].Name = "spoilt"
	}
}

func spoilExprs(l []api.MExpr) {
	l = l[:cap(l)]
	for i := range l {
		spoilExprs(l[i].Kids)
		l[i] = api.MExpr{Op: -1}
	}
}
