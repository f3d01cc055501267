package mach

import (
	"mortise/api"
	"mortise/word"
)

// operations are what is done for each Op that there is.
func (m *Machine) operations() []func(api.Inst) {
	list := []func(api.Inst){
		api.OpHalt:  m.halt,
		api.OpTrap:  m.trap,
		api.OpMove:  m.move,
		api.OpConst: m.constant,
		api.OpHigh:  m.high,
		api.OpLoad:  m.load,
		api.OpStore: m.store,
		api.OpJump:  m.jump,
		api.OpZero:  m.zero,
		api.OpSome:  m.some,
		api.OpCall:  m.call,
		api.OpAt:    m.at,
		api.OpRet:   m.ret,
		api.OpIn:    m.read,
		api.OpOut:   m.write,
		api.OpRoom:  m.room,

		api.OpUn + api.Neg:  m.one,
		api.OpUn + api.Flip: m.one,
		api.OpUn + api.Bang: m.one,
	}
	for op := api.OpBin + api.Add; op <= api.OpBin+api.Ge; op++ {
		list[op] = m.two
	}
	return list
}

// fetch is the instruction at the place; it gives up if there is none.
func (m *Machine) fetch() api.Inst {
	if m.pc < 0 || m.pc >= len(m.code) || m.code[m.pc].Op == refused {
		panic(end{kind: api.RunFault})
	}
	return m.code[m.pc]
}

// cell is a word of memory; it gives up if there is none.
func (m *Machine) cell(at int64) *int64 {
	if at < 0 || at >= int64(len(m.mem)) {
		panic(end{kind: api.RunFault})
	}
	return &m.mem[at]
}

func (m *Machine) halt(api.Inst) {
	m.end = end{kind: api.RunDone}
}

func (m *Machine) trap(i api.Inst) {
	switch {
	case i.Imm >= 1 && i.Imm <= mostCode:
		panic(end{kind: api.RunPanic, code: int(i.Imm)})
	case i.Imm == api.TrapMemory:
		panic(end{kind: api.RunMemory})
	case i.Imm == api.TrapStack:
		panic(end{kind: api.RunStack})
	}
	panic(end{kind: api.RunFault})
}

func (m *Machine) move(i api.Inst) {
	m.regs[i.A] = m.regs[i.B]
}

func (m *Machine) constant(i api.Inst) {
	m.regs[i.A] = i.Imm
}

func (m *Machine) high(i api.Inst) {
	m.regs[i.A] = m.regs[i.A]<<32 + int64(uint32(i.Imm))
}

func (m *Machine) two(i api.Inst) {
	v, code := word.Bin(i.Op-api.OpBin, m.regs[i.B], m.regs[i.C])
	if code != 0 {
		panic(end{kind: api.RunPanic, code: code})
	}
	m.regs[i.A] = v
}

// one needs no look at word.Un's code: an operation of one word never panics.
func (m *Machine) one(i api.Inst) {
	m.regs[i.A], _ = word.Un(i.Op-api.OpUn, m.regs[i.B])
}

func (m *Machine) load(i api.Inst) {
	m.regs[i.A] = *m.cell(m.regs[i.B] + i.Imm)
}

func (m *Machine) store(i api.Inst) {
	*m.cell(m.regs[i.B] + i.Imm) = m.regs[i.A]
}

func (m *Machine) room(i api.Inst) {
	m.regs[i.A] = int64(len(m.mem))
}

func (m *Machine) jump(i api.Inst) {
	m.pc += int(i.Imm)
}

func (m *Machine) zero(i api.Inst) {
	if m.regs[i.A] == 0 {
		m.jump(i)
	}
}

func (m *Machine) some(i api.Inst) {
	if m.regs[i.A] != 0 {
		m.jump(i)
	}
}

// push puts the place on the stack; register 15 is turned last, since there may be no room.
func (m *Machine) push() {
	top := m.regs[stack] - 1
	*m.cell(top) = int64(m.pc)
	m.regs[stack] = top
}

func (m *Machine) call(i api.Inst) {
	m.push()
	m.pc = int(i.Imm)
}

// at reads its register behind push, which may have turned it.
func (m *Machine) at(i api.Inst) {
	m.push()
	m.pc = int(m.regs[i.A])
}

func (m *Machine) ret(api.Inst) {
	m.pc = int(*m.cell(m.regs[stack]))
	m.regs[stack]++
}

func (m *Machine) read(i api.Inst) {
	if len(m.in) == 0 {
		m.regs[i.A] = -1
		return
	}
	m.regs[i.A] = int64(m.in[0])
	m.in = m.in[1:]
}

func (m *Machine) write(i api.Inst) {
	if len(m.out) < api.MaxOut {
		m.out = append(m.out, byte(m.regs[i.A]))
	}
}
