package mach_test

import (
	"math/rand"
	"testing"

	"mortise/api"
	"mortise/isa"
	"mortise/word"
)

// model is the chapter said once more, in one piece: what a machine shows, and what only it knows.
type model struct {
	look
	code []int64
	in   string
}

func newModel(im api.Image, mem int, in string) *model {
	m := &model{code: im.Code, in: in}
	m.pc = im.Entry
	m.mem = make([]int64, mem)
	copy(m.mem, im.Data)
	m.regs[15] = int64(mem)
	return m
}

func (m *model) ends(kind, code int) { m.kind, m.look.code = kind, code }

// has tells whether there is a word of memory, and ends the run if there is none.
func (m *model) has(at int64) bool {
	if at >= 0 && at < int64(len(m.mem)) {
		return true
	}
	m.ends(api.RunFault, 0)
	return false
}

func (m *model) makeStep() {
	if m.kind != api.RunFuel {
		return
	}
	m.step++
	if m.pc < 0 || m.pc >= len(m.code) {
		m.ends(api.RunFault, 0)
		return
	}
	i, e := isa.Decode(m.code[m.pc])
	if e != api.OK {
		m.ends(api.RunFault, 0)
		return
	}
	m.pc++
	if i.Op >= api.OpBin {
		m.reckon(i)
		return
	}
	m.do(i)
}

func (m *model) reckon(i api.Inst) {
	v, code := int64(0), 0
	if i.Op >= api.OpUn {
		v, code = word.Un(i.Op-api.OpUn, m.regs[i.B])
	} else {
		v, code = word.Bin(i.Op-api.OpBin, m.regs[i.B], m.regs[i.C])
	}
	if code != 0 {
		m.ends(api.RunPanic, code)
		return
	}
	m.regs[i.A] = v
}

func (m *model) do(i api.Inst) {
	a := &m.regs[i.A]
	switch i.Op {
	case api.OpHalt:
		m.ends(api.RunDone, 0)
	case api.OpTrap:
		m.trap(i.Imm)
	case api.OpMove:
		*a = m.regs[i.B]
	case api.OpConst:
		*a = i.Imm
	case api.OpHigh:
		*a = int64(uint64(*a)<<32 | uint64(i.Imm)&0xffffffff)
	case api.OpLoad:
		if at := m.regs[i.B] + i.Imm; m.has(at) {
			*a = m.mem[at]
		}
	case api.OpStore:
		if at := m.regs[i.B] + i.Imm; m.has(at) {
			m.mem[at] = *a
		}
	case api.OpJump, api.OpZero, api.OpSome:
		if i.Op == api.OpJump || i.Op == api.OpZero && *a == 0 || i.Op == api.OpSome && *a != 0 {
			m.pc += int(i.Imm)
		}
	case api.OpRoom:
		*a = int64(len(m.mem))
	default:
		m.pass(i)
	}
}

func (m *model) trap(n int64) {
	switch n {
	case 1000:
		m.ends(api.RunMemory, 0)
	case 1001:
		m.ends(api.RunStack, 0)
	default:
		if n < 1 || n > 999 {
			m.ends(api.RunFault, 0)
			return
		}
		m.ends(api.RunPanic, int(n))
	}
}

// pass is what calls, returns, reads and writes.
func (m *model) pass(i api.Inst) {
	a, top := &m.regs[i.A], &m.regs[15]
	switch i.Op {
	case api.OpCall, api.OpAt:
		if m.has(*top - 1) {
			*top--
			m.mem[*top] = int64(m.pc)
			if m.pc = int(i.Imm); i.Op == api.OpAt {
				m.pc = int(*a)
			}
		}
	case api.OpRet:
		if m.has(*top) {
			m.pc = int(m.mem[*top])
			*top++
		}
	case api.OpIn:
		if *a = -1; m.in != "" {
			*a, m.in = int64(m.in[0]), m.in[1:]
		}
	case api.OpOut:
		m.out += string([]byte{byte(*a)})
	}
}

// someOps are all ops, ends and reckoning seldom enough for runs to go on.
func someOps() []int {
	ops := []int{api.OpHalt, api.OpTrap}
	for range 3 {
		for op := api.OpMove; op <= api.OpRoom; op++ {
			ops = append(ops, op)
		}
	}
	for op := api.Add; op <= api.Ge; op++ {
		ops = append(ops, api.OpBin+op)
	}
	return append(ops, api.OpUn+api.Neg, api.OpUn+api.Flip, api.OpUn+api.Bang)
}

func someInst(r *rand.Rand, ops []int) api.Inst {
	i := api.Inst{Op: ops[r.Intn(len(ops))]}
	few := []int{0, 1, 2, 15}
	regs, imm, _ := isa.Uses(i.Op)
	for k, reg := range []*int{&i.A, &i.B, &i.C} {
		if regs>>k&1 == 1 {
			*reg = few[r.Intn(len(few))]
		}
	}
	if imm {
		i.Imm = int64(r.Intn(10) - 3)
		if r.Intn(10) == 0 {
			i.Imm = int64(int32(r.Uint32()))
		}
		if i.Op == api.OpTrap && r.Intn(2) == 0 {
			i.Imm = int64(api.TrapMemory + r.Intn(2))
		}
	}
	return i
}

func someImage(t *testing.T, r *rand.Rand, ops []int) api.Image {
	var im api.Image
	for range 1 + r.Intn(12) {
		im.Code = append(im.Code, code(t, someInst(r, ops))...)
	}
	if r.Intn(10) == 0 {
		im.Code[r.Intn(len(im.Code))] = int64(r.Uint64())
	}
	for range r.Intn(5) {
		im.Data = append(im.Data, int64(r.Intn(12)-2))
	}
	im.Entry = r.Intn(len(im.Code))
	return im
}

// 3.2: programs of all instructions do step by step what the model does, whatever they come to.
func TestStepsAsTheModel(t *testing.T) {
	r := rand.New(rand.NewSource(1))
	ops := someOps()
	ended := map[int]int{}
	for range 20000 {
		im := someImage(t, r, ops)
		mem := len(im.Data) + r.Intn(4)
		m, want := start(t, im, mem, "ab\xff"), newModel(im, mem, "ab\xff")
		for n := 0; n < 60; n++ {
			if made := m.Step(); made != (want.kind == api.RunFuel) {
				t.Fatalf("%+v: step %d: %v", im, n, made)
			}
			want.makeStep()
			if got := lookAt(m, mem); !got.same(want.look) {
				t.Fatalf("%+v: after step %d: %+v, want %+v", im, n, got, want.look)
			}
			if want.kind != api.RunFuel && n > want.step {
				break
			}
		}
		ended[want.kind]++
	}
	for kind := api.RunFuel; kind <= api.RunFault; kind++ {
		if ended[kind] < 100 {
			t.Errorf("only %d programs came to kind %d", ended[kind], kind)
		}
	}
}
