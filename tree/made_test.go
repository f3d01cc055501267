package tree_test

import (
	"reflect"
	"testing"

	"mortise/api"
	"mortise/tree"
)

// TestMade holds runs of made modules against those of the model, with each of a few fuels (15.3, 15.4).
func TestMade(t *testing.T) {
	var kinds [api.RunFault + 1]int
	long := 0
	for seed := range 1500 {
		m := &maker{state: uint64(seed)}
		ms := m.program()
		for _, x := range ms {
			if e := tree.Valid(x); e != api.OK {
				t.Fatalf("15.1: seed %d: %d", seed, e)
			}
		}
		mem, in := 40+m.upTo(400), "\x00\x03abc\xff\x01\x02"[:m.upTo(9)]
		begin := list(funcName(0), "main", funcName(3))[m.upTo(6)/5:]
		whole := model(ms, begin, mem, in, 4000)
		kinds[whole.Kind]++
		if whole.Steps > 200 {
			long++
		}
		fuels := list(4000, whole.Steps, whole.Steps-1, whole.Steps+1)
		for range 3 {
			fuels = append(fuels, m.upTo(whole.Steps+2)-1)
		}
		for _, fuel := range fuels {
			got, want := tree.Run(ms, begin, mem, []byte(in), fuel), model(ms, begin, mem, in, fuel)
			got.Out, want.Out = append([]byte{}, got.Out...), append([]byte{}, want.Out...)
			if !reflect.DeepEqual(got, want) {
				t.Fatalf("15.3: seed %d, fuel %d: %+v, want %+v", seed, fuel, got, want)
			}
		}
	}
	t.Log("kinds", kinds, "long", long)
	for kind, n := range kinds {
		if n < 20 && kind != api.RunStack {
			t.Errorf("only %d runs end by %d", n, kind)
		}
	}
}

// TestMoreWeak: weak functions and datas behind all others of their names change nothing (15.4).
func TestMoreWeak(t *testing.T) {
	for seed := range 500 {
		m := &maker{state: uint64(seed) + 1<<40}
		ms := m.program()
		more := append([]api.Module(nil), ms...)
		for _, x := range m.program() {
			var had api.Module
			for _, f := range x.Funcs {
				if hasFunc(ms, f.Name) {
					had.Funcs = append(had.Funcs, weak(f))
				}
			}
			more = append(more, had)
		}
		got, want := tree.Run(more, list("main"), 100, nil, 9999), tree.Run(ms, list("main"), 100, nil, 9999)
		if !reflect.DeepEqual(got, want) {
			t.Fatalf("15.4: seed %d: %+v, want %+v", seed, got, want)
		}
	}
}

func hasFunc(ms []api.Module, name string) bool {
	for _, m := range ms {
		for _, f := range m.Funcs {
			if f.Name == name {
				return true
			}
		}
	}
	return false
}
