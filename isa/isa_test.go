package isa_test

import (
	"math"
	"testing"

	"mortise/api"
	"mortise/isa"
)

const (
	leastImm = -2147483648
	mostImm  = 2147483647
)

// row is a row of the chapter's table, with one op of those that it names.
type row struct {
	op      int
	name    string
	a, b, c bool
	imm     bool
}

func rows() []row {
	list := []row{
		{op: 0, name: "halt"},
		{op: 1, name: "trap", imm: true},
		{op: 2, name: "move", a: true, b: true},
		{op: 3, name: "const", a: true, imm: true},
		{op: 4, name: "high", a: true, imm: true},
		{op: 5, name: "load", a: true, b: true, imm: true},
		{op: 6, name: "store", a: true, b: true, imm: true},
		{op: 7, name: "jump", imm: true},
		{op: 8, name: "zero", a: true, imm: true},
		{op: 9, name: "some", a: true, imm: true},
		{op: 10, name: "call", imm: true},
		{op: 11, name: "at", a: true},
		{op: 12, name: "ret"},
		{op: 13, name: "in", a: true},
		{op: 14, name: "out", a: true},
		{op: 15, name: "room", a: true},
	}
	for at, name := range []string{"add", "sub", "mul", "div", "rem", "and", "or", "xor", "shl", "shr", "eq", "ne", "lt", "le", "gt", "ge"} {
		list = append(list, row{op: 17 + at, name: name, a: true, b: true, c: true})
	}
	for at, name := range []string{"neg", "flip", "bang"} {
		list = append(list, row{op: 41 + at, name: name, a: true, b: true})
	}
	return list
}

// noOps are ops that there are not: between and behind those of the table, and far away, some with the low bits of one that there is.
func noOps() []int {
	list := []int{16, 16 + api.AndAnd, 16 + api.OrOr, 39, 40, 44, 45, 63, 64, 127, 128, 255}
	for _, r := range rows() {
		list = append(list, r.op+64, r.op+128, r.op+256, r.op+1<<32, r.op+math.MinInt, r.op-256)
		if r.op != 0 {
			list = append(list, -r.op)
		}
	}
	return append(list, math.MinInt, math.MinInt+1, math.MaxInt, math.MaxInt-16, math.MaxInt-40)
}

// regs are numbers that a register may have, and others numbers that none may have.
func regs() []int { return []int{0, 1, 7, 8, 15} }

func others() []int {
	return []int{-1, -15, -16, 16, 17, 31, 256, 1 << 32, -1 << 32, math.MinInt, math.MaxInt}
}

func imms() []int64 {
	return []int64{0, 1, -1, 16, 255, -256, 1 << 16, 1 << 30, -1 << 30, leastImm, leastImm + 1, mostImm, mostImm - 1}
}

func otherImms() []int64 {
	return []int64{leastImm - 1, mostImm + 1, 1<<32 - 1, 1 << 32, -1 << 32, 1<<32 + 5, 1 << 44, 1 << 56, math.MinInt64, math.MaxInt64}
}

// made are instructions of a row that have a word: each register that it has at each number, then each Imm.
func (r row) made() []api.Inst {
	var list []api.Inst
	for _, x := range regs() {
		for _, y := range []int{0, 5, 15} {
			list = append(list, r.inst(x, y, 3, -2), r.inst(y, x, 3, 7), r.inst(y, 6, x, 0))
		}
	}
	for _, n := range imms() {
		list = append(list, r.inst(0, 0, 0, n), r.inst(15, 15, 15, n), r.inst(1, 2, 3, n))
	}
	return list
}

// inst is an instruction of the row with those of the numbers that it has.
func (r row) inst(a, b, c int, imm int64) api.Inst {
	i := api.Inst{Op: r.op}
	if r.a {
		i.A = a
	}
	if r.b {
		i.B = b
	}
	if r.c {
		i.C = c
	}
	if r.imm {
		i.Imm = imm
	}
	return i
}

// word is the word of an instruction that has one, added up as the chapter says it.
func word(i api.Inst) int64 {
	low := i.Imm
	if low < 0 {
		low += 4294967296
	}
	return int64(i.Op)*72057594037927936 + int64(i.A)*4503599627370496 + int64(i.B)*281474976710656 + int64(i.C)*17592186044416 + low
}

// 2.1: what each op of the table has.
func TestUsesOfEachOp(t *testing.T) {
	if len(rows()) != 35 {
		t.Fatalf("the table has %d rows", len(rows()))
	}
	for _, r := range rows() {
		want := 0
		if r.a {
			want += 1
		}
		if r.b {
			want += 2
		}
		if r.c {
			want += 4
		}
		if has, imm, is := isa.Uses(r.op); has != want || imm != r.imm || !is {
			t.Errorf("Uses(%d) of %s = %d, %v, %v, want %d, %v, true", r.op, r.name, has, imm, is, want, r.imm)
		}
	}
}

// 2.1: the numbers of ops are those that package api gives.
func TestOpsAreThoseOfApi(t *testing.T) {
	for name, op := range map[string]int{
		"halt": api.OpHalt, "trap": api.OpTrap, "move": api.OpMove, "const": api.OpConst, "high": api.OpHigh, "load": api.OpLoad, "store": api.OpStore,
		"jump": api.OpJump, "zero": api.OpZero, "some": api.OpSome, "call": api.OpCall, "at": api.OpAt, "ret": api.OpRet, "in": api.OpIn, "out": api.OpOut, "room": api.OpRoom,
		"add": api.OpBin + api.Add, "ge": api.OpBin + api.Ge, "neg": api.OpUn + api.Neg, "bang": api.OpUn + api.Bang,
	} {
		found := false
		for _, r := range rows() {
			found = found || r.op == op && r.name == name
		}
		if !found {
			t.Errorf("the table has no %s with the number %d", name, op)
		}
	}
}

// 2.1: of an op that there is not nothing is told.
func TestUsesOfNoOp(t *testing.T) {
	check := func(op int) {
		if has, imm, is := isa.Uses(op); has != 0 || imm || is {
			t.Errorf("Uses(%d) = %d, %v, %v, want 0, false, false", op, has, imm, is)
		}
	}
	for _, op := range noOps() {
		check(op)
	}
	known := map[int]bool{}
	for _, r := range rows() {
		known[r.op] = true
	}
	for op := -3000; op <= 3000; op++ {
		if !known[op] {
			check(op)
		}
	}
}

// 2.2: the word of each instruction that has one.
func TestEncode(t *testing.T) {
	for _, r := range rows() {
		for _, i := range r.made() {
			if v, e := isa.Encode(i); v != word(i) || e != api.OK {
				t.Errorf("Encode(%v) of %s = %d, %d, want %d, 0", i, r.name, v, e, word(i))
			}
		}
	}
}

// 2.2: words that are written out, so that they hang on no reckoning.
func TestEncodeAsWritten(t *testing.T) {
	for _, c := range []struct {
		in   api.Inst
		want int64
	}{
		{api.Inst{Op: api.OpConst, A: 3, Imm: -1}, 0x03300000ffffffff},
		{api.Inst{}, 0},
		{api.Inst{Op: api.OpTrap, Imm: api.TrapStack}, 0x01000000000003e9},
		{api.Inst{Op: api.OpLoad, A: 15, B: 1, Imm: leastImm}, 0x05f1000080000000},
		{api.Inst{Op: api.OpStore, A: 2, B: 15, Imm: mostImm}, 0x062f00007fffffff},
		{api.Inst{Op: api.OpBin + api.Ge, A: 15, B: 14, C: 13}, 0x20fed00000000000},
		{api.Inst{Op: api.OpUn + api.Bang, A: 4, B: 9}, 0x2b49000000000000},
	} {
		if v, e := isa.Encode(c.in); v != c.want || e != api.OK {
			t.Errorf("Encode(%v) = %#x, %d, want %#x, 0", c.in, v, e, c.want)
		}
		if i, e := isa.Decode(c.want); i != c.in || e != api.OK {
			t.Errorf("Decode(%#x) = %v, %d, want %v, 0", c.want, i, e, c.in)
		}
	}
}

// refused are instructions without a word.
func refused() []api.Inst {
	var list []api.Inst
	for _, r := range rows() {
		good := r.inst(1, 2, 3, 4)
		for _, n := range r.wrongRegs(r.a) {
			bad := good
			bad.A = n
			list = append(list, bad)
		}
		for _, n := range r.wrongRegs(r.b) {
			bad := good
			bad.B = n
			list = append(list, bad)
		}
		for _, n := range r.wrongRegs(r.c) {
			bad := good
			bad.C = n
			list = append(list, bad)
		}
		wrong := otherImms()
		if !r.imm {
			wrong = append(wrong, 1, -1, 2, mostImm, leastImm)
		}
		for _, n := range wrong {
			bad := good
			bad.Imm = n
			list = append(list, bad)
		}
	}
	for _, op := range noOps() {
		list = append(list, api.Inst{Op: op}, api.Inst{Op: op, A: 1, B: 2, C: 3, Imm: 4})
	}
	return list
}

// wrongRegs are numbers that a register may not have, be it one that the row has or not.
func (r row) wrongRegs(has bool) []int {
	if has {
		return others()
	}
	return append(others(), 1, 2, 8, 15)
}

// 2.2, 2.4: of an instruction without a word ErrForm, and 0 beside it, and the empty text.
func TestEncodeRefuses(t *testing.T) {
	for _, i := range refused() {
		if v, e := isa.Encode(i); v != 0 || e != api.ErrForm {
			t.Errorf("Encode(%v) = %d, %d, want 0, ErrForm", i, v, e)
		}
		if text := isa.Text(i); text != "" {
			t.Errorf("Text(%v) = %q, want none", i, text)
		}
	}
}

// 2.3: the instruction of each word that Encode tells.
func TestDecode(t *testing.T) {
	for _, r := range rows() {
		for _, i := range r.made() {
			if back, e := isa.Decode(word(i)); back != i || e != api.OK {
				t.Errorf("Decode(%d) = %v, %d, want %v, 0", word(i), back, e, i)
			}
		}
	}
}

func checkNoInst(t *testing.T, v int64) {
	t.Helper()
	if i, e := isa.Decode(v); i != (api.Inst{}) || e != api.ErrForm {
		t.Errorf("Decode(%#x) = %v, %d, want nothing and ErrForm", uint64(v), i, e)
	}
}

// 2.3: a good word with a sign, or with a one in bits 32 to 43, says nothing.
func TestDecodeRefusesBits(t *testing.T) {
	for _, r := range rows() {
		for _, i := range r.made() {
			checkNoInst(t, word(i)|math.MinInt64)
			for bit := 32; bit <= 43; bit++ {
				checkNoInst(t, word(i)|1<<bit)
			}
		}
	}
	for _, v := range []int64{math.MinInt64, math.MaxInt64, -1, -2, -1 << 32, -1 << 44, -1 << 56} {
		checkNoInst(t, v)
	}
}

// 2.3: a word with an op that there is not says nothing.
func TestDecodeRefusesOps(t *testing.T) {
	for _, op := range noOps() {
		if op >= 0 && op < 128 {
			checkNoInst(t, int64(op)<<56)
			checkNoInst(t, int64(op)<<56|1<<52|2<<48|3<<44)
			checkNoInst(t, int64(op)<<56|1<<52|2<<48|3<<44|4)
		}
	}
}

// 2.3: a word with a register or an Imm that its op does not have says nothing.
func TestDecodeRefusesWhatTheOpHasNot(t *testing.T) {
	for _, r := range rows() {
		good := word(r.inst(1, 2, 3, 4))
		for n := int64(1); n <= 15; n++ {
			if !r.a {
				checkNoInst(t, good|n<<52)
			}
			if !r.b {
				checkNoInst(t, good|n<<48)
			}
			if !r.c {
				checkNoInst(t, good|n<<44)
			}
		}
		if r.imm {
			continue
		}
		for bit := 0; bit < 32; bit++ {
			checkNoInst(t, good|1<<bit)
		}
		checkNoInst(t, good|1<<32-1)
	}
	checkNoInst(t, 1)
}

// 2.3: whatever the word, an instruction is told just if it is one of which Encode tells that word.
func TestDecodeAndEncodeGoTogether(t *testing.T) {
	// Few words at random have a right op and noughts where they must be; these keep what several kinds of ops have.
	keeps := []uint64{0xffffffffffffffff, 0x00fff000ffffffff, 0x00fff00000000000, 0x00ff000000000000, 0x00ff0000ffffffff, 0x00f00000ffffffff, 0x00f0000000000000, 0x00000000ffffffff}
	state := uint64(1)
	told := 0
	for turn := range 100000 {
		state = state*6364136223846793005 + 1442695040888963407
		mixed := (state ^ state>>29) * 0x9e3779b97f4a7c15
		keep := keeps[turn%len(keeps)]
		v := int64(mixed & keep)
		if keep>>56 == 0 {
			v |= int64(mixed >> 33 % 45 << 56)
		}
		i, e := isa.Decode(v)
		if e != api.OK {
			checkNoInst(t, v)
			continue
		}
		told++
		if again, e := isa.Encode(i); again != v || e != api.OK {
			t.Errorf("Decode(%#x) = %v, but its word is %#x, %d", uint64(v), i, again, e)
		}
	}
	if told < 10000 {
		t.Errorf("only %d words were told", told)
	}
}

// 2.4: the text of each instruction that has a word.
func TestText(t *testing.T) {
	for _, r := range rows() {
		for _, c := range []struct {
			a, b, c int
			imm     int64
			tells   [4]string
		}{
			{0, 0, 0, 0, [4]string{" r0", " r0", " r0", " 0"}},
			{1, 2, 3, 4, [4]string{" r1", " r2", " r3", " 4"}},
			{15, 10, 9, -1, [4]string{" r15", " r10", " r9", " -1"}},
			{9, 15, 10, leastImm, [4]string{" r9", " r15", " r10", " -2147483648"}},
			{10, 9, 15, mostImm, [4]string{" r10", " r9", " r15", " 2147483647"}},
		} {
			want := r.name
			for at, has := range []bool{r.a, r.b, r.c, r.imm} {
				if has {
					want += c.tells[at]
				}
			}
			if text := isa.Text(r.inst(c.a, c.b, c.c, c.imm)); text != want {
				t.Errorf("Text(%v) = %q, want %q", r.inst(c.a, c.b, c.c, c.imm), text, want)
			}
		}
	}
}

// 2.4: texts that are written out.
func TestTextAsWritten(t *testing.T) {
	for _, c := range []struct {
		in   api.Inst
		want string
	}{
		{api.Inst{Op: api.OpConst, A: 3, Imm: -1}, "const r3 -1"},
		{api.Inst{}, "halt"},
		{api.Inst{Op: api.OpRet}, "ret"},
		{api.Inst{Op: api.OpJump}, "jump 0"},
		{api.Inst{Op: api.OpMove, A: 0, B: 15}, "move r0 r15"},
		{api.Inst{Op: api.OpLoad, A: 1, B: 15, Imm: leastImm}, "load r1 r15 -2147483648"},
		{api.Inst{Op: api.OpStore, A: 10, B: 2, Imm: mostImm}, "store r10 r2 2147483647"},
		{api.Inst{Op: api.OpBin + api.Shr, A: 1, B: 2, C: 3}, "shr r1 r2 r3"},
		{api.Inst{Op: api.OpUn + api.Flip, A: 1, B: 2}, "flip r1 r2"},
	} {
		if text := isa.Text(c.in); text != c.want {
			t.Errorf("Text(%v) = %q, want %q", c.in, text, c.want)
		}
	}
}
