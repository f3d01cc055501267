package mach_test

import (
	"testing"

	"mortise/api"
	"mortise/isa"
	"mortise/mach"
)

// The step that an effect tells of is made at place; next is the place behind it.
const (
	place = 5
	next  = place + 1
)

// effect is one step: what there is ahead of it, and what it turns; all else has to stay.
type effect struct {
	name string
	inst api.Inst
	regs map[int]int64
	data []int64
	mem  int
	in   string

	then  map[int]int64 // registers
	cells map[int]int64 // words of memory
	by    int           // how far from next the place is
	out   string
	kind  int
	code  int
}

// ready is a machine at place with the registers that the effect asks for.
func (c effect) ready(t *testing.T) *mach.Machine {
	t.Helper()
	list := []api.Inst{halt(), halt(), halt(), halt(), halt(), c.inst}
	for r := range 16 {
		if n, is := c.regs[r]; is {
			list = append(list, set(r, n)...)
		}
	}
	list = append(list, jump(int64(place-len(list)-1)))
	m := start(t, api.Image{Code: code(t, list...), Data: c.data, Entry: next}, c.mem, c.in)
	if m.Run(len(list) - next); m.Pc() != place {
		t.Fatalf("%s: at %d", c.name, m.Pc())
	}
	for r, n := range c.regs {
		if m.Reg(r) != n {
			t.Fatalf("%s: register %d is %d", c.name, r, m.Reg(r))
		}
	}
	return m
}

func (c effect) check(t *testing.T) {
	t.Helper()
	m := c.ready(t)
	want := lookAt(m, c.mem)
	if !m.Step() {
		t.Errorf("%s: no step", c.name)
	}
	want.step++
	want.pc = next + c.by
	for r, n := range c.then {
		want.regs[r] = n
	}
	for at, n := range c.cells {
		want.mem[at] = n
	}
	want.out, want.kind, want.code = c.out, c.kind, c.code
	if got := lookAt(m, c.mem); !got.same(want) {
		t.Errorf("%s: %+v, want %+v", c.name, got, want)
	}
	if c.kind == api.RunFuel {
		return
	}
	if m.Step() || !lookAt(m, c.mem).same(want) {
		t.Errorf("%s: a step of a run that is over: %+v, want %+v", c.name, lookAt(m, c.mem), want)
	}
}

func checkEffects(t *testing.T, list []effect) {
	t.Helper()
	for _, c := range list {
		c.check(t)
	}
}

// 3.2: the ends that an instruction asks for.
func TestStepEnds(t *testing.T) {
	list := []effect{{name: "halt", inst: halt(), kind: api.RunDone}}
	trap := func(n int64, kind, code int) {
		list = append(list, effect{name: "trap", inst: api.Inst{Op: api.OpTrap, Imm: n}, regs: map[int]int64{1: 7}, mem: 2, kind: kind, code: code})
	}
	for _, n := range []int64{1, 2, api.PanicMake, api.UserPanic, api.UserPanic + 255, 998, 999} {
		trap(n, api.RunPanic, int(n))
	}
	trap(1000, api.RunMemory, 0)
	trap(1001, api.RunStack, 0)
	for _, n := range []int64{0, -1, -999, -1000, -1001, 1002, 1003, 1 << 16, leastImm, mostImm} {
		trap(n, api.RunFault, 0)
	}
	checkEffects(t, list)
}

// 3.2: moves and constants, register 15 like any other.
func TestStepMoves(t *testing.T) {
	move := func(a, b int) api.Inst { return api.Inst{Op: api.OpMove, A: a, B: b} }
	room := func(a int) api.Inst { return api.Inst{Op: api.OpRoom, A: a} }
	checkEffects(t, []effect{
		{name: "move", inst: move(1, 2), regs: map[int]int64{1: 5, 2: least}, then: map[int]int64{1: least}},
		{name: "move of itself", inst: move(2, 2), regs: map[int]int64{2: 6}},
		{name: "move out of 15", inst: move(0, 15), mem: 3, then: map[int]int64{0: 3}},
		{name: "move into 15", inst: move(15, 0), mem: 3, regs: map[int]int64{0: -7}, then: map[int]int64{15: -7}},
		{name: "const", inst: constant(3, 12), regs: map[int]int64{3: most}, then: map[int]int64{3: 12}},
		{name: "const below 0", inst: constant(3, -1), then: map[int]int64{3: -1}},
		{name: "least const", inst: constant(0, leastImm), then: map[int]int64{0: leastImm}},
		{name: "most const", inst: constant(15, mostImm), mem: 1, then: map[int]int64{15: mostImm}},
		{name: "room", inst: room(4), mem: 9, regs: map[int]int64{4: 1, 15: 2}, then: map[int]int64{4: 9}},
		{name: "no room", inst: room(4), regs: map[int]int64{4: 1}, then: map[int]int64{4: 0}},
		{name: "room in 15", inst: room(15), mem: 2, regs: map[int]int64{15: -2}, then: map[int]int64{15: 2}},
		{name: "most room", inst: room(1), mem: api.MaxMem, then: map[int]int64{1: api.MaxMem}},
	})
}

// 3.2: OpHigh lifts the lower half, loses the upper one, and adds the lowest 32 bits of Imm without a sign.
func TestStepHigh(t *testing.T) {
	for _, c := range []struct{ old, imm, want int64 }{
		{0, 0, 0},
		{0, 5, 5},
		{0, -1, 0xffffffff},
		{0, leastImm, 0x80000000},
		{0, mostImm, 0x7fffffff},
		{1, 0, 1 << 32},
		{1, -1, 1<<33 - 1},
		{-1, 0, -1 << 32},
		{-1, -1, -1},
		{-1, leastImm, -1<<32 + 0x80000000},
		{0x1234567800000000, 7, 7},
		{0x12345678_9abcdef0, 0x11223344, -0x65432110<<32 + 0x11223344},
		{least, -2, 0xfffffffe},
		{most, 0, -1 << 32},
		{0x80000000, 1, least + 1},
		{0x7fffffff, -1, most},
		{1 << 32, -1, 0xffffffff},
	} {
		high := api.Inst{Op: api.OpHigh, A: 6, Imm: c.imm}
		// set works by OpHigh too, so that the number comes out of memory here.
		m := start(t, api.Image{Code: code(t, api.Inst{Op: api.OpLoad, A: 6, B: 0}, high), Data: []int64{c.old}}, 1, "")
		m.Step()
		want := lookAt(m, 1)
		want.regs[6], want.pc, want.step = c.want, 2, 2
		if !m.Step() || !lookAt(m, 1).same(want) {
			t.Errorf("high of %#x by %d is %#x, want %#x", c.old, c.imm, m.Reg(6), c.want)
		}
	}
}

// 3.2: each operation of two words, in both orders and of one word with itself, so that no two operations make the same of all three.
func TestStepOfTwo(t *testing.T) {
	makes := map[int]int64{
		api.Add: -23, api.Sub: -35, api.Mul: -174, api.Div: -4, api.Rem: -5, api.And: 2, api.Or: -25, api.Xor: -27, api.Shl: -1856, api.Shr: -1,
		api.Eq: 0, api.Ne: 1, api.Lt: 1, api.Le: 1, api.Gt: 0, api.Ge: 0,
	}
	turned := map[int]int64{
		api.Add: -23, api.Sub: 35, api.Mul: -174, api.Div: 0, api.Rem: 6, api.And: 2, api.Or: -25, api.Xor: -27, api.Shl: 6 << 35, api.Shr: 0,
		api.Eq: 0, api.Ne: 1, api.Lt: 0, api.Le: 0, api.Gt: 1, api.Ge: 1,
	}
	same := map[int]int64{
		api.Add: -58, api.Sub: 0, api.Mul: 841, api.Div: 1, api.Rem: 0, api.And: -29, api.Or: -29, api.Xor: 0, api.Shl: -29 << 35, api.Shr: -1,
		api.Eq: 1, api.Ne: 0, api.Lt: 0, api.Le: 1, api.Gt: 0, api.Ge: 1,
	}
	var list []effect
	for op := api.Add; op <= api.Ge; op++ {
		regs := map[int]int64{1: 99, 2: -29, 3: 6}
		of := func(a, b, c int) api.Inst { return api.Inst{Op: api.OpBin + op, A: a, B: b, C: c} }
		list = append(list,
			effect{name: isa.Text(of(1, 2, 3)), inst: of(1, 2, 3), regs: regs, then: map[int]int64{1: makes[op]}},
			effect{name: isa.Text(of(1, 3, 2)), inst: of(1, 3, 2), regs: regs, then: map[int]int64{1: turned[op]}},
			effect{name: isa.Text(of(1, 2, 2)), inst: of(1, 2, 2), regs: regs, then: map[int]int64{1: same[op]}},
			effect{name: isa.Text(of(2, 2, 3)), inst: of(2, 2, 3), regs: regs, then: map[int]int64{2: makes[op]}},
			effect{name: isa.Text(of(3, 2, 3)), inst: of(3, 2, 3), regs: regs, then: map[int]int64{3: makes[op]}},
			effect{name: isa.Text(of(15, 2, 3)), inst: of(15, 2, 3), regs: regs, mem: 5, then: map[int]int64{15: makes[op]}},
		)
	}
	checkEffects(t, list)
}

// 3.2: each operation of one word.
func TestStepOfOne(t *testing.T) {
	var list []effect
	for _, c := range []struct {
		op     int
		n, own int64
	}{{api.Neg, 5, -5}, {api.Neg, least, least}, {api.Flip, 5, -6}, {api.Flip, most, least}, {api.Bang, 5, 0}, {api.Bang, 0, 1}} {
		of := func(a, b int) api.Inst { return api.Inst{Op: api.OpUn + c.op, A: a, B: b} }
		list = append(list,
			effect{name: isa.Text(of(1, 2)), inst: of(1, 2), regs: map[int]int64{1: 99, 2: c.n}, then: map[int]int64{1: c.own}},
			effect{name: isa.Text(of(2, 2)), inst: of(2, 2), regs: map[int]int64{2: c.n}, then: map[int]int64{2: c.own}},
			effect{name: isa.Text(of(15, 2)), inst: of(15, 2), regs: map[int]int64{2: c.n}, mem: 5, then: map[int]int64{15: c.own}},
		)
	}
	checkEffects(t, list)
}

// 3.2: division by 0 panics and makes nothing.
func TestStepByZero(t *testing.T) {
	for _, op := range []int{api.Div, api.Rem} {
		for _, n := range []int64{0, 5, -5, least, most} {
			checkEffects(t, []effect{
				{name: "by 0", inst: api.Inst{Op: api.OpBin + op, A: 1, B: 2, C: 3}, regs: map[int]int64{1: 77, 2: n}, data: []int64{6}, mem: 2, kind: api.RunPanic, code: api.PanicZero},
				{name: "by 0 into itself", inst: api.Inst{Op: api.OpBin + op, A: 2, B: 2, C: 0}, regs: map[int]int64{2: n}, kind: api.RunPanic, code: api.PanicZero},
			})
		}
	}
}

// 3.2: loads and stores of words that there are.
func TestStepMemory(t *testing.T) {
	load := func(a, b int, n int64) api.Inst { return api.Inst{Op: api.OpLoad, A: a, B: b, Imm: n} }
	store := func(a, b int, n int64) api.Inst { return api.Inst{Op: api.OpStore, A: a, B: b, Imm: n} }
	data := []int64{11, least, 13}
	checkEffects(t, []effect{
		{name: "load of the first word", inst: load(1, 0, 0), data: data, mem: 5, regs: map[int]int64{1: 3}, then: map[int]int64{1: 11}},
		{name: "load by Imm", inst: load(1, 0, 1), data: data, mem: 5, then: map[int]int64{1: least}},
		{name: "load by register", inst: load(1, 2, 0), data: data, mem: 5, regs: map[int]int64{2: 2}, then: map[int]int64{1: 13}},
		{name: "load by both", inst: load(1, 2, -3), data: data, mem: 5, regs: map[int]int64{1: 9, 2: 4}, then: map[int]int64{1: least}},
		{name: "load from below 0", inst: load(1, 2, 4), data: data, mem: 5, regs: map[int]int64{1: 9, 2: -2}, then: map[int]int64{1: 13}},
		{name: "load of the last word", inst: load(1, 15, -1), mem: 5, regs: map[int]int64{1: 9}, then: map[int]int64{1: 0}},
		{name: "load into its own register", inst: load(2, 2, 1), data: data, mem: 3, regs: map[int]int64{2: 1}, then: map[int]int64{2: 13}},
		{name: "load into 15", inst: load(15, 0, 2), data: data, mem: 3, then: map[int]int64{15: 13}},
		{name: "load far by Imm", inst: load(1, 2, leastImm), data: data, mem: 3, regs: map[int]int64{2: -leastImm + 2}, then: map[int]int64{1: 13}},
		{name: "store in the first word", inst: store(1, 0, 0), data: data, mem: 5, regs: map[int]int64{1: 3}, cells: map[int]int64{0: 3}},
		{name: "store by both", inst: store(1, 2, -3), data: data, mem: 5, regs: map[int]int64{1: most, 2: 4}, cells: map[int]int64{1: most}},
		{name: "store in the last word", inst: store(1, 15, -1), mem: 5, regs: map[int]int64{1: -9}, cells: map[int]int64{4: -9}},
		{name: "store of its own register", inst: store(2, 2, 1), data: data, mem: 3, regs: map[int]int64{2: 1}, cells: map[int]int64{2: 1}},
		{name: "store of 15", inst: store(15, 0, 1), data: data, mem: 3, cells: map[int]int64{1: 3}},
		{name: "store far by Imm", inst: store(1, 2, mostImm), data: data, mem: 3, regs: map[int]int64{1: 8, 2: -mostImm}, cells: map[int]int64{0: 8}},
	})
}

// 3.2: loads and stores of words that there are not fault, also where the sum goes round 64 bits, and turn nothing but the place.
func TestStepNoMemory(t *testing.T) {
	for _, c := range []struct {
		mem    int
		b, imm int64
	}{
		{0, 0, 0}, {0, 0, -1}, {0, -1, 0}, {0, -1, 1}, {1, 0, 1}, {1, 1, 0}, {1, 0, -1},
		{4, -1, 0}, {4, 0, -1}, {4, 4, 0}, {4, 0, 4}, {4, 3, 1}, {4, 5, -1}, {4, -2, 1}, {4, 100, 0}, {4, -100, 0},
		{4, 0, leastImm}, {4, 0, mostImm}, {4, 1 << 32, 0}, {4, 1<<32 + 1, 1}, {4, -1 << 32, 2}, {4, 1 << 63 >> 1, 1},
		{4, most, 0}, {4, most, 1}, {4, most, mostImm}, {4, least, 0}, {4, least, -1}, {4, least, 1}, {4, least, leastImm}, {4, least, mostImm}, {4, most, leastImm},
		{api.MaxMem, api.MaxMem, 0}, {api.MaxMem, -1, 0},
	} {
		checkEffects(t, []effect{
			{name: "load", inst: api.Inst{Op: api.OpLoad, A: 1, B: 2, Imm: c.imm}, mem: c.mem, regs: map[int]int64{1: 77, 2: c.b}, kind: api.RunFault},
			{name: "load into 15", inst: api.Inst{Op: api.OpLoad, A: 15, B: 2, Imm: c.imm}, mem: c.mem, regs: map[int]int64{2: c.b}, kind: api.RunFault},
			{name: "load by 15", inst: api.Inst{Op: api.OpLoad, A: 15, B: 15, Imm: c.imm}, mem: c.mem, regs: map[int]int64{15: c.b}, kind: api.RunFault},
			{name: "store", inst: api.Inst{Op: api.OpStore, A: 1, B: 2, Imm: c.imm}, mem: c.mem, regs: map[int]int64{1: 77, 2: c.b}, kind: api.RunFault},
		})
	}
}

// 3.2: jumps go on from the place behind them, be there a word or not.
func TestStepJumps(t *testing.T) {
	zero := func(a int, n int64) api.Inst { return api.Inst{Op: api.OpZero, A: a, Imm: n} }
	some := func(a int, n int64) api.Inst { return api.Inst{Op: api.OpSome, A: a, Imm: n} }
	var list []effect
	for _, n := range []int64{0, 1, -1, 2, -6, -7, 100, -100, 1 << 16, mostImm, leastImm} {
		list = append(list,
			effect{name: "jump", inst: jump(n), regs: map[int]int64{1: 1}, by: int(n)},
			effect{name: "zero of 0", inst: zero(1, n), by: int(n)},
			effect{name: "some of 0", inst: some(1, n)},
		)
		for _, v := range []int64{1, -1, 2, 1 << 32, least, most} {
			list = append(list,
				effect{name: "zero of another", inst: zero(1, n), regs: map[int]int64{1: v}},
				effect{name: "some of another", inst: some(1, n), regs: map[int]int64{1: v}, by: int(n)},
			)
		}
		list = append(list,
			effect{name: "zero of 15", inst: zero(15, n), by: int(n)},
			effect{name: "some of 15", inst: some(15, n), mem: 1, by: int(n)},
		)
	}
	checkEffects(t, list)
}

// 3.2: calls that find room.
func TestStepCalls(t *testing.T) {
	call := func(n int64) api.Inst { return api.Inst{Op: api.OpCall, Imm: n} }
	at := func(a int) api.Inst { return api.Inst{Op: api.OpAt, A: a} }
	data := []int64{21, 22}
	list := []effect{
		{name: "call in the middle", inst: call(3), data: data, mem: 4, regs: map[int]int64{15: 2}, then: map[int]int64{15: 1}, cells: map[int]int64{1: next}, by: 3 - next},
		{name: "at in the middle", inst: at(3), data: data, mem: 4, regs: map[int]int64{3: 2, 15: 2}, then: map[int]int64{15: 1}, cells: map[int]int64{1: next}, by: 2 - next},
		{name: "at of 15 behind memory", inst: at(15), mem: 3, then: map[int]int64{15: 2}, cells: map[int]int64{2: next}, by: 2 - next},
		{name: "at of 15 at the first word", inst: at(15), mem: 3, regs: map[int]int64{15: 1}, then: map[int]int64{15: 0}, cells: map[int]int64{0: next}, by: 0 - next},
		{name: "at of the word that it writes", inst: at(1), mem: 3, regs: map[int]int64{1: 2}, then: map[int]int64{15: 2}, cells: map[int]int64{2: next}, by: 2 - next},
	}
	for _, n := range []int64{0, 1, place, next, -1, 100, mostImm, leastImm} {
		list = append(list,
			effect{name: "call", inst: call(n), mem: 2, then: map[int]int64{15: 1}, cells: map[int]int64{1: next}, by: int(n) - next},
			effect{name: "call at the first word", inst: call(n), data: data, mem: 2, regs: map[int]int64{15: 1}, then: map[int]int64{15: 0}, cells: map[int]int64{0: next}, by: int(n) - next},
		)
	}
	for _, n := range []int64{0, 1, place, next, -1, 100, 1 << 32, -1 << 32, most, least} {
		list = append(list,
			effect{name: "at", inst: at(1), mem: 2, regs: map[int]int64{1: n}, then: map[int]int64{15: 1}, cells: map[int]int64{1: next}, by: int(n) - next},
			effect{name: "at at the first word", inst: at(1), data: data, mem: 2, regs: map[int]int64{1: n, 15: 1}, then: map[int]int64{15: 0}, cells: map[int]int64{0: next}, by: int(n) - next},
		)
	}
	checkEffects(t, list)
}

// 3.2: calls that find no room fault, and turn nothing but the place.
func TestStepCallsWithoutRoom(t *testing.T) {
	var list []effect
	for _, top := range []int64{0, -1, 4, 5, -4, 1 << 32, 1<<32 + 1, least, least + 1, most} {
		for _, i := range []api.Inst{{Op: api.OpCall, Imm: 2}, {Op: api.OpAt, A: 1}, {Op: api.OpAt, A: 15}} {
			list = append(list, effect{name: isa.Text(i), inst: i, data: []int64{31}, mem: 3, regs: map[int]int64{1: 2, 15: top}, kind: api.RunFault})
		}
	}
	for _, i := range []api.Inst{{Op: api.OpCall, Imm: 2}, {Op: api.OpAt, A: 1}, {Op: api.OpAt, A: 15}} {
		list = append(list, effect{name: isa.Text(i) + " without memory", inst: i, regs: map[int]int64{1: 2}, kind: api.RunFault})
	}
	checkEffects(t, list)
}

// 3.2: returns to the word at register 15, and faults where there is none.
func TestStepReturns(t *testing.T) {
	ret := api.Inst{Op: api.OpRet}
	var list []effect
	for _, n := range []int64{0, 1, place, next, -1, 100, 1 << 32, -1 << 32, most, least} {
		data := []int64{n, 41, n}
		list = append(list,
			effect{name: "ret at the first word", inst: ret, data: data, mem: 3, regs: map[int]int64{15: 0}, then: map[int]int64{15: 1}, by: int(n) - next},
			effect{name: "ret at the last word", inst: ret, data: data, mem: 3, regs: map[int]int64{15: 2}, then: map[int]int64{15: 3}, by: int(n) - next},
		)
	}
	for _, top := range []int64{-1, 3, 4, -3, 1 << 32, least, most} {
		list = append(list, effect{name: "ret without a word", inst: ret, data: []int64{1, 2, 3}, mem: 3, regs: map[int]int64{15: top}, kind: api.RunFault})
	}
	list = append(list, effect{name: "ret of a new stack", inst: ret, data: []int64{1, 2, 3}, mem: 3, kind: api.RunFault})
	list = append(list, effect{name: "ret without memory", inst: ret, kind: api.RunFault})
	checkEffects(t, list)
}

// 3.2: bytes come in one by one without a sign, and then -1; the lowest eight bits go out.
func TestStepBytes(t *testing.T) {
	read := func(a int) api.Inst { return api.Inst{Op: api.OpIn, A: a} }
	checkEffects(t, []effect{
		{name: "in", inst: read(1), in: "xy", then: map[int]int64{1: 'x'}},
		{name: "in of a nought", inst: read(1), in: "\x00", regs: map[int]int64{1: 7}, then: map[int]int64{1: 0}},
		{name: "in of a great byte", inst: read(1), in: "\xff", then: map[int]int64{1: 255}},
		{name: "in at the end", inst: read(1), regs: map[int]int64{1: 7}, then: map[int]int64{1: -1}},
		{name: "in into 15", inst: read(15), in: "z", mem: 4, then: map[int]int64{15: 'z'}},
		{name: "out", inst: out(1), regs: map[int]int64{1: 'q'}, out: "q"},
		{name: "out of 0", inst: out(1), out: "\x00"},
		{name: "out of -1", inst: out(1), regs: map[int]int64{1: -1}, out: "\xff"},
		{name: "out of more than eight bits", inst: out(1), regs: map[int]int64{1: least + 256 + 'q'}, out: "q"},
		{name: "out of 15", inst: out(15), mem: 65, out: "A"},
	})
	m := start(t, api.Image{Code: code(t, read(1), read(2), read(3), read(4), halt())}, 0, "\x80a")
	m.Run(9)
	for r, want := range []int64{0, 128, 'a', -1, -1} {
		if got := m.Reg(r); got != want {
			t.Errorf("register %d is %d, want %d", r, got, want)
		}
	}
}

// 3.2: a word that Decode refuses faults; the place stays, and all else too.
func TestStepOfRefusedWords(t *testing.T) {
	for _, v := range []int64{1, -1, least, most, 16 << 56, 40 << 56, 44 << 56, 33 << 56, 3<<56 + 1<<48, 3<<56 + 1<<40, 12<<56 + 1, 1<<56 + 1<<52, 17<<56 + 1<<32} {
		m := start(t, api.Image{Code: []int64{0, v, 0}, Data: []int64{5}, Entry: 1}, 2, "in")
		want := lookAt(m, 2)
		want.kind, want.step = api.RunFault, 1
		if !m.Step() || !lookAt(m, 2).same(want) {
			t.Errorf("word %#x: %+v, want %+v", uint64(v), lookAt(m, 2), want)
		}
		if m.Step() || !lookAt(m, 2).same(want) {
			t.Errorf("word %#x, over: %+v, want %+v", uint64(v), lookAt(m, 2), want)
		}
	}
}

// 3.2: where there is no word at the place, the step that was to take it faults; the place stays, and all else too.
func TestStepWhereNoWordIs(t *testing.T) {
	for _, c := range []struct {
		name string
		inst api.Inst
		pc   int
	}{
		{"behind the code", constant(1, 5), 1},
		{"jump below", jump(-2), -1},
		{"jump far below", jump(leastImm), 1 + leastImm},
		{"jump behind", jump(0), 1},
		{"jump far behind", jump(mostImm), 1 + mostImm},
		{"zero below", api.Inst{Op: api.OpZero, A: 1, Imm: -2}, -1},
		{"some behind", api.Inst{Op: api.OpSome, A: 15, Imm: 3}, 4},
		{"call below", api.Inst{Op: api.OpCall, Imm: -1}, -1},
		{"call behind", api.Inst{Op: api.OpCall, Imm: 1}, 1},
		{"at behind", api.Inst{Op: api.OpAt, A: 15}, 1},
	} {
		checkLost(t, c.name, start(t, api.Image{Code: code(t, c.inst)}, 2, "in"), c.pc)
	}
	for _, n := range []int64{-1, 3, 1 << 32, -1 << 32, least, most} {
		at := start(t, api.Image{Code: code(t, api.Inst{Op: api.OpLoad, A: 1, B: 0}, api.Inst{Op: api.OpAt, A: 1}, halt()), Data: []int64{n}}, 2, "in")
		at.Step()
		checkLost(t, "at", at, int(n))
		ret := start(t, api.Image{Code: code(t, constant(15, 0), api.Inst{Op: api.OpRet}, halt()), Data: []int64{n}}, 2, "in")
		ret.Step()
		checkLost(t, "ret", ret, int(n))
	}
}

// checkLost makes a step that leads to a place without a word, and the one that faults there.
func checkLost(t *testing.T, name string, m *mach.Machine, pc int) {
	t.Helper()
	if !m.Step() || m.Outcome().Kind != api.RunFuel || m.Pc() != pc {
		t.Errorf("%s: at %d, %+v, want %d", name, m.Pc(), m.Outcome(), pc)
	}
	want := lookAt(m, 2)
	want.kind = api.RunFault
	want.step++
	if !m.Step() || !lookAt(m, 2).same(want) {
		t.Errorf("%s: %+v, want %+v", name, lookAt(m, 2), want)
	}
	if m.Step() || !lookAt(m, 2).same(want) {
		t.Errorf("%s, over: %+v, want %+v", name, lookAt(m, 2), want)
	}
}

// 3.2: a fault leaves what was written and what is still to be read.
func TestStepFaultKeepsOutput(t *testing.T) {
	m := start(t, api.Image{Code: code(t, api.Inst{Op: api.OpIn, A: 1}, out(1), api.Inst{Op: api.OpLoad, A: 1, B: 15}, halt()), Data: []int64{5}}, 2, "in")
	if o := m.Run(9); !sameOutcome(o, api.Outcome{Kind: api.RunFault, Out: []byte("i"), Steps: 3}) || m.Pc() != 3 || m.Reg(1) != 'i' || m.Mem(0) != 5 {
		t.Errorf("%+v at %d", o, m.Pc())
	}
}

// 3.2: what is written behind MaxOut bytes is not kept, and the run goes on.
func TestStepOutBehindMaxOut(t *testing.T) {
	list := []api.Inst{constant(2, 1), out(1), {Op: api.OpBin + api.Add, A: 1, B: 1, C: 2}, jump(-3)}
	for _, c := range []struct{ written, kept int }{{0, 0}, {1, 1}, {api.MaxOut - 1, api.MaxOut - 1}, {api.MaxOut, api.MaxOut}, {api.MaxOut + 1, api.MaxOut}, {3 * api.MaxOut, api.MaxOut}} {
		m := start(t, api.Image{Code: code(t, list...)}, 0, "")
		o := m.Run(1 + 3*c.written)
		if len(o.Out) != c.kept || o.Kind != api.RunFuel || o.Steps != 1+3*c.written || m.Reg(1) != int64(c.written) {
			t.Errorf("%d bytes: %d are kept, kind %d, %d steps", c.written, len(o.Out), o.Kind, o.Steps)
		}
		for at, b := range o.Out {
			if b != byte(at) {
				t.Fatalf("byte %d is %d", at, b)
			}
		}
	}
}
