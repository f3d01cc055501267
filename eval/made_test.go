package eval_test

import (
	"bytes"
	"strings"
	"sync"
	"testing"

	"mortise/api"
	"mortise/eval"
	"mortise/prog"
)

// checkRun holds a program's run against the model's, and tells how it ended.
func checkRun(t *testing.T, texts []string, w *world, fuel int, syms []api.Sym) api.Outcome {
	t.Helper()
	in := []byte("input")
	o, cost, e := eval.Run(texts, in, fuel)
	most := eval.Stack(texts, in, fuel, syms)
	want, wantCost, wantMost := w.run(in, fuel, syms)
	if e != api.OK || o.Kind != want.Kind || o.Code != want.Code || !bytes.Equal(o.Out, want.Out) || o.Steps != want.Steps || cost != wantCost || most != wantMost {
		t.Errorf("%s\nwith %d: %d, %s, stack %d; the model tells %s, stack %d", strings.Join(texts, "\n"), fuel, e, counted(o, cost), most, counted(want, wantCost), wantMost)
	}
	return o
}

// eachRound does something for many numbers, several at once.
func eachRound(rounds int, do func(round int)) {
	var all sync.WaitGroup
	for first := range 8 {
		all.Go(func() {
			for round := first; round < rounds; round += 8 {
				do(round)
			}
		})
	}
	all.Wait()
}

// ends counts how runs ended.
type ends struct {
	lock  sync.Mutex
	count map[int]int
	steps int
}

func (e *ends) add(o api.Outcome) {
	e.lock.Lock()
	defer e.lock.Unlock()
	e.count[o.Kind*1000+o.Code]++
	e.steps += o.Steps
}

// madeSyms are symbols with frames, of some of a program's names, some of them twice.
func madeSyms(m *maker, names []string) []api.Sym {
	var syms []api.Sym
	for range m.upTo(2 * len(names)) {
		syms = append(syms, api.Sym{Name: pick(m, names...), Frame: pick(m, m.upTo(50), m.upTo(50), -1-m.upTo(9), api.MaxMem+m.upTo(2))})
	}
	return syms
}

// 13.1, 13.2, 13.3: made programs do what the chapter, told a second time, says.
func TestMadePrograms(t *testing.T) {
	e := ends{count: map[int]int{}}
	eachRound(240, func(round int) {
		m := &maker{state: uint64(round)}
		texts := m.program()
		names := prog.Named(texts)
		if len(names) == 0 {
			_, _, at, err := prog.Load(texts)
			t.Errorf("%q: %d in %d", texts, err, at)
			return
		}
		w := model(texts)
		o := checkRun(t, texts, w, 6000, madeSyms(m, names))
		e.add(o)
		for range 3 {
			checkRun(t, texts, w, m.upTo(o.Steps+2), madeSyms(m, names))
		}
	})
	if e.steps < 240*500 {
		t.Error("they make few steps:", e.steps)
	}
	for _, kind := range []int{api.RunFuel, api.RunDone, api.RunStack} {
		if e.count[kind*1000] < 10 {
			t.Error("few end by", kind, e.count)
		}
	}
	for code := api.PanicNil; code <= api.PanicMake; code++ {
		if e.count[api.RunPanic*1000+code] < 3 {
			t.Error("few end by the panic", code, e.count)
		}
	}
}
