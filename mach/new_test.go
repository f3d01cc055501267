package mach_test

import (
	"math"
	"slices"
	"testing"

	"mortise/api"
	"mortise/mach"
)

// newCase is what is handed to New, by lengths, and its answer.
type newCase struct {
	name                   string
	code, data, entry, mem int
	in                     int
	want                   api.Errno
}

func newCases() []newCase {
	return []newCase{
		{"least", 1, 0, 0, 0, 0, api.OK},
		{"no code", 0, 0, 0, 0, 0, api.ErrForm},
		{"most code", api.MaxCode, 0, 0, 0, 0, api.OK},
		{"too much code", api.MaxCode + 1, 0, 0, 0, 0, api.ErrForm},
		{"most data", 1, api.MaxData, 0, api.MaxData, 0, api.OK},
		{"too much data", 1, api.MaxData + 1, 0, api.MaxMem, 0, api.ErrForm},
		{"entry -1", 3, 0, -1, 0, 0, api.ErrForm},
		{"entry at the last place", 3, 0, 2, 0, 0, api.OK},
		{"entry behind the last place", 3, 0, 3, 0, 0, api.ErrForm},
		{"entry at the last place of most code", api.MaxCode, 0, api.MaxCode - 1, 0, 0, api.OK},
		{"entry far below", 3, 0, math.MinInt, 0, 0, api.ErrForm},
		{"entry far behind", 3, 0, math.MaxInt, 0, 0, api.ErrForm},
		{"mem below 0", 1, 0, 0, -1, 0, api.ErrArg},
		{"mem far below 0", 1, 0, 0, math.MinInt, 0, api.ErrArg},
		{"mem one below data", 1, 3, 0, 2, 0, api.ErrArg},
		{"mem as much as data", 1, 3, 0, 3, 0, api.OK},
		{"mem one more than data", 1, 3, 0, 4, 0, api.OK},
		{"mem one below most data", 1, api.MaxData, 0, api.MaxData - 1, 0, api.ErrArg},
		{"most mem", 1, 0, 0, api.MaxMem, 0, api.OK},
		{"too much mem", 1, 0, 0, api.MaxMem + 1, 0, api.ErrArg},
		{"far too much mem", 1, 0, 0, math.MaxInt, 0, api.ErrArg},
		{"most in", 1, 0, 0, 0, api.MaxIn, api.OK},
		{"too much in", 1, 0, 0, 0, api.MaxIn + 1, api.ErrArg},
		{"most of all", api.MaxCode, api.MaxData, api.MaxCode - 1, api.MaxMem, api.MaxIn, api.OK},
		{"no code, mem below 0", 0, 0, 0, -1, 0, api.ErrForm},
		{"no code, too much in", 0, 0, 0, 0, api.MaxIn + 1, api.ErrForm},
		{"too much code, too much mem", api.MaxCode + 1, 0, 0, api.MaxMem + 1, 0, api.ErrForm},
		{"too much data, mem below it", 1, api.MaxData + 1, 0, 0, 0, api.ErrForm},
		{"entry -1, mem below data, too much in", 1, 3, -1, 2, api.MaxIn + 1, api.ErrForm},
		{"entry behind, mem below 0", 1, 0, 1, -1, 0, api.ErrForm},
		{"mem below data, too much in", 1, 3, 0, 2, api.MaxIn + 1, api.ErrArg},
	}
}

func (c newCase) image() api.Image {
	return api.Image{Code: make([]int64, c.code), Data: make([]int64, c.data), Entry: c.entry}
}

// 3.1: what New takes and what it refuses; of several faults ErrForm comes first, and beside an error stands nil.
func TestNewTakesOrRefuses(t *testing.T) {
	for _, c := range newCases() {
		m, e := mach.New(c.image(), c.mem, make([]byte, c.in))
		if e != c.want || (m == nil) != (c.want != api.OK) {
			t.Errorf("%s: %v, %d, want %d", c.name, m != nil, e, c.want)
		}
	}
}

// 3.3: what New refuses, Run tells by RunFault alone; what it takes runs.
func TestRunOfWhatNewRefuses(t *testing.T) {
	for _, c := range newCases() {
		want := api.Outcome{Kind: api.RunFault}
		if c.want == api.OK {
			want = api.Outcome{Kind: api.RunDone, Steps: 1}
		}
		if o := mach.Run(c.image(), c.mem, make([]byte, c.in), 10); !sameOutcome(o, want) {
			t.Errorf("%s: %+v, want %+v", c.name, o, want)
		}
		if c.want == api.OK {
			want = api.Outcome{}
		}
		if o := mach.Run(c.image(), c.mem, make([]byte, c.in), 0); !sameOutcome(o, want) {
			t.Errorf("%s, without fuel: %+v, want %+v", c.name, o, want)
		}
	}
}

// 3.1: a new machine is at Entry; its registers are 0 but for register 15, its memory is Data and then noughts.
func TestNewMachine(t *testing.T) {
	for _, mem := range []int{3, 4, 10, api.MaxMem} {
		im := api.Image{Code: code(t, halt(), halt(), halt()), Data: []int64{7, least, -1}, Entry: 2}
		want := look{pc: 2, mem: make([]int64, mem)}
		copy(want.mem, im.Data)
		want.regs[15] = int64(mem)
		if got := lookAt(start(t, im, mem, "in"), mem); !got.same(want) {
			t.Errorf("with %d words of memory: %+v, want %+v", mem, got, want)
		}
	}
	got := lookAt(start(t, api.Image{Code: code(t, halt())}, 0, ""), 0)
	if !got.same(look{}) {
		t.Errorf("without memory: %+v", got)
	}
}

// spoilt is a program that reads its input, loads its data, and turns them in its memory.
func spoilt(t *testing.T) (api.Image, []byte) {
	words := code(t,
		api.Inst{Op: api.OpIn, A: 1},
		out(1),
		api.Inst{Op: api.OpLoad, A: 2, B: 0},
		out(2),
		api.Inst{Op: api.OpStore, A: 1, B: 0},
		api.Inst{Op: api.OpStore, A: 1, B: 0, Imm: 1},
		api.Inst{Op: api.OpStore, A: 1, B: 0, Imm: 2},
		halt(),
	)
	return api.Image{Code: words, Data: []int64{'d', 'e'}}, []byte("i")
}

// R3: what was handed in stays as it was.
func TestNewChangesNothing(t *testing.T) {
	im, in := spoilt(t)
	again, _ := spoilt(t)
	m, _ := mach.New(im, 3, in)
	if o := m.Run(20); o.Kind != api.RunDone || string(o.Out) != "id" || m.Mem(1) != 'i' {
		t.Fatalf("%+v", o)
	}
	if !slices.Equal(im.Code, again.Code) || !slices.Equal(im.Data, again.Data) || string(in) != "i" {
		t.Errorf("%+v, %q", im, in)
	}
}

// R3: what was handed in may be spoilt without the machine's knowing.
func TestNewKeepsNothing(t *testing.T) {
	im, in := spoilt(t)
	m, _ := mach.New(im, 3, in)
	spoil := func(n int64) {
		for at := range im.Code {
			im.Code[at] = n
		}
		for at := range im.Data {
			im.Data[at] = n
		}
		in[0] = 'X'
	}
	spoil(-1)
	for range 4 {
		m.Step()
	}
	spoil(0)
	if o := m.Run(20); o.Kind != api.RunDone || string(o.Out) != "id" || o.Steps != 8 {
		t.Errorf("%+v", o)
	}
}

// R3: what lies behind a list's length is neither read nor written.
func TestNewStopsAtLengths(t *testing.T) {
	data := []int64{1, 2, 3, 4}
	in := []byte("abc")
	words := code(t, constant(1, 9), api.Inst{Op: api.OpStore, A: 1, B: 0, Imm: 2}, api.Inst{Op: api.OpIn, A: 2}, api.Inst{Op: api.OpIn, A: 3}, halt(), halt())
	m, e := mach.New(api.Image{Code: words[:4], Data: data[:2]}, 4, in[:1])
	if e != api.OK || m.Mem(2) != 0 || m.Mem(3) != 0 {
		t.Fatalf("%d, memory behind the data: %d, %d", e, m.Mem(2), m.Mem(3))
	}
	if o := m.Run(9); o.Kind != api.RunFault || o.Steps != 5 || m.Reg(2) != 'a' || m.Reg(3) != -1 {
		t.Errorf("%+v, read %d, %d", o, m.Reg(2), m.Reg(3))
	}
	if data[2] != 3 || string(in) != "abc" {
		t.Errorf("%v, %q", data, in)
	}
}

// R5: machines share nothing, be they made of one image.
func TestMachinesStandAlone(t *testing.T) {
	im, in := spoilt(t)
	a, _ := mach.New(im, 3, in)
	b, _ := mach.New(im, 3, in)
	before := lookAt(b, 3)
	a.Run(20)
	if !lookAt(b, 3).same(before) {
		t.Errorf("%+v, want %+v", lookAt(b, 3), before)
	}
	b.Run(20)
	if !lookAt(b, 3).same(lookAt(a, 3)) {
		t.Errorf("%+v, want %+v", lookAt(b, 3), lookAt(a, 3))
	}
}
