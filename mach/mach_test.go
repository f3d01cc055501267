package mach_test

import (
	"bytes"
	"fmt"
	"math"
	"slices"
	"testing"

	"mortise/api"
	"mortise/isa"
	"mortise/mach"
)

const (
	least = math.MinInt64
	most  = math.MaxInt64

	leastImm = math.MinInt32
	mostImm  = math.MaxInt32
)

// code is the words of instructions.
func code(t *testing.T, list ...api.Inst) []int64 {
	t.Helper()
	var words []int64
	for _, i := range list {
		v, e := isa.Encode(i)
		if e != api.OK {
			t.Fatalf("%+v has no word", i)
		}
		words = append(words, v)
	}
	return words
}

// start is a new machine of an image that is right.
func start(t *testing.T, im api.Image, mem int, in string) *mach.Machine {
	t.Helper()
	m, e := mach.New(im, mem, []byte(in))
	if m == nil || e != api.OK {
		t.Fatalf("New(%+v, %d, %q) = %v, %d", im, mem, in, m, e)
	}
	return m
}

// look is all that a machine shows.
type look struct {
	pc   int
	regs [16]int64
	mem  []int64
	out  string
	kind int
	code int
	step int
}

func lookAt(m *mach.Machine, mem int) look {
	o := m.Outcome()
	l := look{pc: m.Pc(), mem: make([]int64, mem), out: string(o.Out), kind: o.Kind, code: o.Code, step: o.Steps}
	for r := range l.regs {
		l.regs[r] = m.Reg(r)
	}
	for at := range l.mem {
		l.mem[at] = m.Mem(at)
	}
	return l
}

// String leaves out most of a great memory, so that what a test tells can be read.
func (l look) String() string {
	return fmt.Sprintf("pc %d, regs %v, mem %v.., out %q, kind %d, code %d, steps %d", l.pc, l.regs, l.mem[:min(len(l.mem), 8)], l.out, l.kind, l.code, l.step)
}

func (l look) same(x look) bool {
	return l.pc == x.pc && l.regs == x.regs && slices.Equal(l.mem, x.mem) && l.out == x.out && l.kind == x.kind && l.code == x.code && l.step == x.step
}

// sameOutcome holds two outcomes against each other, for which no output and an empty one are the same.
func sameOutcome(a, b api.Outcome) bool {
	return a.Kind == b.Kind && a.Code == b.Code && bytes.Equal(a.Out, b.Out) && a.Steps == b.Steps
}

func halt() api.Inst { return api.Inst{Op: api.OpHalt} }

func constant(a int, n int64) api.Inst { return api.Inst{Op: api.OpConst, A: a, Imm: n} }

func out(a int) api.Inst { return api.Inst{Op: api.OpOut, A: a} }

func jump(by int64) api.Inst { return api.Inst{Op: api.OpJump, Imm: by} }

// set is what gives a register any number of 64 bits.
func set(a int, n int64) []api.Inst {
	return []api.Inst{constant(a, n>>32), {Op: api.OpHigh, A: a, Imm: int64(int32(n))}}
}
