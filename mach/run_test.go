package mach_test

import (
	"math"
	"testing"

	"mortise/api"
	"mortise/mach"
)

// letters writes A, B, C and then is done: seven steps.
func letters(t *testing.T) api.Image {
	return api.Image{Code: code(t, constant(1, 'A'), out(1), constant(1, 'B'), out(1), constant(1, 'C'), out(1), halt())}
}

// afterLetters is what letters has come to after so many steps.
func afterLetters(steps int) api.Outcome {
	if steps >= 7 {
		return api.Outcome{Kind: api.RunDone, Out: []byte("ABC"), Steps: 7}
	}
	return api.Outcome{Out: []byte("ABC")[:steps/2], Steps: steps}
}

func checkOutcome(t *testing.T, name string, got, want api.Outcome) {
	t.Helper()
	if !sameOutcome(got, want) {
		t.Errorf("%s: %+v, want %+v", name, got, want)
	}
}

// 3.3: Run makes n steps at most, none for n below 1, and Outcome tells the same as Run.
func TestRunAtOnce(t *testing.T) {
	for _, c := range []struct{ n, steps int }{{math.MinInt, 0}, {-1, 0}, {0, 0}, {1, 1}, {2, 2}, {3, 3}, {6, 6}, {7, 7}, {8, 7}, {1000, 7}, {math.MaxInt, 7}} {
		m := start(t, letters(t), 0, "")
		checkOutcome(t, "before", m.Outcome(), api.Outcome{})
		checkOutcome(t, "Run", m.Run(c.n), afterLetters(c.steps))
		checkOutcome(t, "Outcome", m.Outcome(), afterLetters(c.steps))
	}
}

// 3.3: Run in parts comes to what Run at once comes to; parts without steps turn nothing.
func TestRunInParts(t *testing.T) {
	for first := range 9 {
		for second := range 9 {
			m := start(t, letters(t), 0, "")
			checkOutcome(t, "first", m.Run(first), afterLetters(first))
			checkOutcome(t, "no step", m.Run(0), afterLetters(first))
			checkOutcome(t, "below no step", m.Run(-5), afterLetters(first))
			checkOutcome(t, "second", m.Run(second), afterLetters(first+second))
			checkOutcome(t, "one more", m.Run(1), afterLetters(first+second+1))
		}
	}
}

// 3.3: single steps come to what Run comes to; when it is over, nothing goes on.
func TestRunByStep(t *testing.T) {
	m := start(t, letters(t), 0, "")
	for n := 1; n <= 9; n++ {
		if made := m.Step(); made != (n <= 7) {
			t.Errorf("step %d: %v", n, made)
		}
		checkOutcome(t, "Step", m.Outcome(), afterLetters(n))
	}
	checkOutcome(t, "over", m.Run(9), afterLetters(7))
	if m.Pc() != 7 {
		t.Errorf("at %d", m.Pc())
	}
}

// 3.3: of each end the kind, the code (of a panic alone), and the step that ended it among the steps.
func TestOutcomeOfEachEnd(t *testing.T) {
	for _, c := range []struct {
		name       string
		last       api.Inst
		kind, code int
	}{
		{"halt", halt(), api.RunDone, 0},
		{"trap 7", api.Inst{Op: api.OpTrap, Imm: 7}, api.RunPanic, 7},
		{"trap 1000", api.Inst{Op: api.OpTrap, Imm: api.TrapMemory}, api.RunMemory, 0},
		{"trap 1001", api.Inst{Op: api.OpTrap, Imm: api.TrapStack}, api.RunStack, 0},
		{"trap 0", api.Inst{Op: api.OpTrap}, api.RunFault, 0},
		{"by 0", api.Inst{Op: api.OpBin + api.Div}, api.RunPanic, api.PanicZero},
		{"ret", api.Inst{Op: api.OpRet}, api.RunFault, 0},
	} {
		im := api.Image{Code: code(t, constant(1, 'A'), out(1), c.last)}
		want := api.Outcome{Kind: c.kind, Code: c.code, Out: []byte("A"), Steps: 3}
		checkOutcome(t, c.name, start(t, im, 0, "").Run(9), want)
		checkOutcome(t, c.name, mach.Run(im, 0, nil, 3), want)
		checkOutcome(t, c.name, mach.Run(im, 0, nil, 2), api.Outcome{Out: []byte("A"), Steps: 2})
	}
	im := api.Image{Code: code(t, constant(1, 'A'), out(1))}
	checkOutcome(t, "no word", mach.Run(im, 0, nil, 9), api.Outcome{Kind: api.RunFault, Out: []byte("A"), Steps: 3})
}

// R3: Out is new in each answer, its spare room too.
func TestOutcomeIsNew(t *testing.T) {
	m := start(t, letters(t), 0, "")
	first := m.Run(4)
	second := m.Outcome()
	first.Out[0] = 'x'
	_ = append(first.Out, "yy"...)
	checkOutcome(t, "another answer", second, afterLetters(4))
	checkOutcome(t, "a later answer", m.Outcome(), afterLetters(4))
	_ = append(second.Out, "zz"...)
	third := m.Run(2)
	checkOutcome(t, "further on", third, afterLetters(6))
	_ = append(third.Out[:0], "qqqq"...)
	checkOutcome(t, "at the end", m.Run(9), afterLetters(7))
}

// 3.3: Run of the package, by its fuel.
func TestRunByFuel(t *testing.T) {
	for _, c := range []struct{ fuel, steps int }{{math.MinInt, 0}, {-1, 0}, {0, 0}, {1, 1}, {6, 6}, {7, 7}, {8, 7}, {api.MaxFuel, 7}, {api.MaxFuel + 1, 7}, {math.MaxInt, 7}} {
		checkOutcome(t, "letters", mach.Run(letters(t), 0, nil, c.fuel), afterLetters(c.steps))
	}
	forever := api.Image{Code: code(t, jump(-1))}
	for _, c := range []struct{ fuel, steps int }{{-1, 0}, {1, 1}, {1000, 1000}, {api.MaxFuel - 1, api.MaxFuel - 1}, {api.MaxFuel, api.MaxFuel}, {api.MaxFuel + 1, api.MaxFuel}, {math.MaxInt, api.MaxFuel}} {
		checkOutcome(t, "forever", mach.Run(forever, 0, nil, c.fuel), api.Outcome{Steps: c.steps})
	}
}

// 3.3: the machine's Run has no limit but n.
func TestRunBehindMaxFuel(t *testing.T) {
	m := start(t, api.Image{Code: code(t, jump(-1))}, 0, "")
	checkOutcome(t, "forever", m.Run(api.MaxFuel+5), api.Outcome{Steps: api.MaxFuel + 5})
}

// 3.3: Run of the package hands on the data, the entry, the memory and the input.
func TestRunHandsOn(t *testing.T) {
	im := api.Image{
		Code:  code(t, halt(), api.Inst{Op: api.OpIn, A: 1}, out(1), api.Inst{Op: api.OpLoad, A: 1, B: 0}, out(1), api.Inst{Op: api.OpRoom, A: 1}, out(1), halt()),
		Data:  []int64{'d'},
		Entry: 1,
	}
	checkOutcome(t, "all", mach.Run(im, 'm', []byte("i"), 20), api.Outcome{Kind: api.RunDone, Out: []byte("idm"), Steps: 7})
}

// R3: Run of the package changes nothing of what it is handed.
func TestRunChangesNothing(t *testing.T) {
	im, in := spoilt(t)
	for range 2 {
		checkOutcome(t, "spoilt", mach.Run(im, 3, in, 20), api.Outcome{Kind: api.RunDone, Out: []byte("id"), Steps: 8})
	}
}

// 3.4: of registers and words that there are not 0.
func TestRegAndMemAtEdges(t *testing.T) {
	m := start(t, api.Image{Code: code(t, constant(0, 3), constant(14, 4), halt()), Data: []int64{5, 6, 7}}, 4, "")
	m.Run(2)
	for r, want := range map[int]int64{0: 3, 1: 0, 14: 4, 15: 4, -1: 0, 16: 0, 17: 0, 1 << 32: 0, math.MinInt: 0, math.MaxInt: 0} {
		if got := m.Reg(r); got != want {
			t.Errorf("Reg(%d) = %d, want %d", r, got, want)
		}
	}
	for at, want := range map[int]int64{0: 5, 1: 6, 2: 7, 3: 0, 4: 0, 5: 0, -1: 0, 1 << 32: 0, math.MinInt: 0, math.MaxInt: 0} {
		if got := m.Mem(at); got != want {
			t.Errorf("Mem(%d) = %d, want %d", at, got, want)
		}
	}
	full := start(t, api.Image{Code: code(t, halt()), Data: []int64{5, 6, 7}}, 3, "")
	if full.Mem(2) != 7 || full.Mem(3) != 0 {
		t.Errorf("the last word %d, behind it %d", full.Mem(2), full.Mem(3))
	}
}

// 3.4: Pc is the place that is done next.
func TestPc(t *testing.T) {
	m := start(t, api.Image{Code: code(t, halt(), jump(1), halt(), jump(-4)), Entry: 1}, 0, "")
	for _, want := range []int{1, 3, 0, 1, 1} {
		if m.Pc() != want {
			t.Errorf("at %d, want %d", m.Pc(), want)
		}
		m.Step()
	}
}

// 3.4: methods of a nil machine; one that New did not make has no code, and does not panic either.
func TestNoMachine(t *testing.T) {
	var none *mach.Machine
	if none.Step() || none.Pc() != 0 {
		t.Error("Step or Pc of none")
	}
	for _, n := range []int{-1, 0, 1, 15, 16, math.MaxInt, math.MinInt} {
		if none.Reg(n) != 0 || none.Mem(n) != 0 {
			t.Errorf("Reg or Mem of none at %d", n)
		}
	}
	for _, n := range []int{-1, 0, 1, 5} {
		checkOutcome(t, "Run of none", none.Run(n), api.Outcome{})
	}
	checkOutcome(t, "Outcome of none", none.Outcome(), api.Outcome{})
	bare := &mach.Machine{}
	checkOutcome(t, "Run of a bare one", bare.Run(5), api.Outcome{Kind: api.RunFault, Steps: 1})
}

// The chapter's examples.
func TestExamples(t *testing.T) {
	run := func(fuel int, list ...api.Inst) api.Outcome {
		return mach.Run(api.Image{Code: code(t, list...)}, 0, nil, fuel)
	}
	checkOutcome(t, "A", run(9, constant(1, 65), out(1), halt()), api.Outcome{Kind: api.RunDone, Out: []byte("A"), Steps: 3})
	checkOutcome(t, "trap 1", run(9, api.Inst{Op: api.OpTrap, Imm: 1}), api.Outcome{Kind: api.RunPanic, Code: 1, Steps: 1})
	checkOutcome(t, "jump -1", run(1<<20, jump(-1)), api.Outcome{Steps: 1 << 20})
	checkOutcome(t, "ret", run(9, api.Inst{Op: api.OpRet}), api.Outcome{Kind: api.RunFault, Steps: 1})
}
