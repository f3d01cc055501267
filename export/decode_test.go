package export_test

import (
	"bytes"
	"encoding/binary"
	"reflect"
	"runtime"
	"strings"
	"testing"

	"mortise/api"
	"mortise/export"
)

// 8.4: each byte turned in each way.
func TestTurned(t *testing.T) {
	b, _ := modelFile(full())
	for i := range b {
		for by := 1; by < 256; by++ {
			b[i] ^= byte(by)
			if _, e := export.Decode(b); e != api.ErrForm {
				t.Fatalf("at %d, by %d: %d", i, by, e)
			}
			b[i] ^= byte(by)
		}
	}
	if _, e := export.Decode(b); e != api.OK {
		t.Errorf("as it was: %d", e)
	}
}

// 8.4: cut short behind each byte, as it is and with its sum; the same with what stands at its end alone.
func TestCut(t *testing.T) {
	b, _ := modelFile(full())
	for i := range b {
		checkRefused(t, "cut", b[:i])
		checkRefused(t, "cut ahead", b[i+1:])
		if i < len(b)-8 {
			checkRefused(t, "cut, with its sum", summed(b[:i]))
			checkRefused(t, "cut ahead, with its sum", summed(b[i+1:len(b)-8]))
		}
	}
	checkRefused(t, "nil", nil)
	checkRefused(t, "empty", []byte{})
}

// 8.4: more behind, as it is, with the sum of all, and ahead of the sum.
func TestMoreBehind(t *testing.T) {
	for _, u := range []api.Unit{{}, {Pkg: "a"}, full()} {
		b, _ := modelFile(u)
		for c := range 256 {
			checkRefused(t, "a byte more", append(b[:len(b):len(b)], byte(c)))
			checkRefused(t, "a byte more, with its sum", summed(append(unsummed(b), byte(c))))
			checkRefused(t, "a byte more, the sum twice", summed(append(b[:len(b):len(b)], byte(c))))
		}
		for n := range 30 {
			checkRefused(t, "noughts more", summed(append(unsummed(b), make([]byte, n+1)...)))
		}
		checkRefused(t, "the sum twice", summed(b))
		checkRefused(t, "all twice", append(b[:len(b):len(b)], b...))
	}
}

// 8.3: another mark, with the sum that is right for it.
func TestMark(t *testing.T) {
	b, _ := modelFile(full())
	for _, mark := range []string{"", "MU1", "MU2\n", "MO1\n", "mu1\n", "MU1\r", "MU1 ", "\nMU1", "MU1\n\n", "MU1\nMU1\n", "XMU1\n"} {
		checkRefused(t, mark, summed(append([]byte(mark), b[4:len(b)-8]...)))
	}
	checkRefused(t, "a sum with its highest byte first", func() []byte {
		other := unsummed(b)
		return binary.BigEndian.AppendUint64(other, uint64(modelSum(other)))
	}())
}

// checkMeant holds that bytes are read just if what is read has these bytes; it tells whether they are.
func checkMeant(t *testing.T, b []byte) bool {
	t.Helper()
	u, e := export.Decode(b)
	if e != api.OK {
		checkRefused(t, "bytes", b)
		return false
	}
	if again, _ := modelFile(u); !bytes.Equal(again, b) {
		t.Fatalf("%+v of %v", u, b)
	}
	return true
}

// 8.3: each length and bool turned to what it can't be there, or to what hardly ever means anything there, with the sum that is right for it.
func TestLengths(t *testing.T) {
	b, marks := modelFile(full())
	raw := unsummed(b)
	refused := 0
	for _, m := range marks {
		was := binary.LittleEndian.Uint64(raw[m.at:])
		for _, n := range []uint64{2, 3, 255, 256, 1 << 31, 1 << 32, 1<<32 + was, 1<<61 + was, 1<<63 - 1, 1<<63 + was, 1<<64 - 1, 1<<64 - 8, uint64(len(b)), was + 1, was - 1} {
			if n == was || m.flag && n < 2 {
				continue
			}
			other := bytes.Clone(raw)
			binary.LittleEndian.PutUint64(other[m.at:], n)
			other = summed(other)
			if m.flag || n >= uint64(len(b)) {
				checkRefused(t, "a length or bool that can't be", other)
			}
			if !checkMeant(t, other) {
				refused++
			}
		}
	}
	if len(marks) != 71 || refused < 71*12 {
		t.Errorf("%d lengths and bools, %d refused", len(marks), refused)
	}
}

// 8.3: bytes with the sum that is right for them are read just if some unit has them.
func TestMadeBytes(t *testing.T) {
	counts := map[bool]int{}
	for round := range 40000 {
		m := &maker{state: uint64(round)}
		b, _ := modelFile(m.unit())
		raw := unsummed(b)
		for range 1 + m.upTo(3) {
			at := m.upTo(len(raw))
			raw[at] = pick(m, raw[at]^1, raw[at]^0x80, 0, 1, 0xff, byte(m.upTo(256)))
		}
		counts[checkMeant(t, summed(raw))]++
	}
	if counts[true] < 5000 || counts[false] < 5000 {
		t.Errorf("what was answered: %v", counts)
	}
}

// 8.3: bytes that no unit has since they are too many, and as many as there may be; their sums are right.
func TestLongBytes(t *testing.T) {
	for over := range 20 {
		b, _ := modelFile(padded(full(), api.MaxBytes+over))
		_, e := export.Decode(b)
		if want := over == 0; len(b) != api.MaxBytes+over || (e == api.OK) != want || (e == api.ErrForm) == want {
			t.Errorf("over by %d: %d", over, e)
		}
	}
	b, _ := modelFile(api.Unit{Imports: make([]api.Import, 1<<18)})
	checkRefused(t, "many imports", b)
	checkRefused(t, "noughts", make([]byte, 1<<24))
	// As deep as no memory of calls would bear, if it were read.
	checkRefused(t, "deep", deepBytes(1<<21, 1))
}

// deepBytes are bytes that tell of a type in which others stand so deep, of lists with so many parts, all but the first ones cut away.
func deepBytes(deep, parts int) []byte {
	b := file(0, 0, 1, 0, 0, 0, 0)
	b = unsummed(b)
	for range deep {
		b = append(b, make([]byte, 24)...)
		b = binary.LittleEndian.AppendUint64(b, uint64(parts))
	}
	return summed(b)
}

// R1: bytes that tell of many more parts than there are, in each of many lists, take no memory for them.
func TestRoom(t *testing.T) {
	var before, after runtime.MemStats
	runtime.ReadMemStats(&before)
	for _, parts := range []int{1, 1 << 10, 1 << 17, 1 << 40, 1<<63 - 1} {
		checkRefused(t, "parts that there are not", deepBytes(8000, parts))
		checkRefused(t, "imports that there are not", file(0, parts))
		checkRefused(t, "a text that there is not", file(parts+9))
	}
	runtime.ReadMemStats(&after)
	if took := after.TotalAlloc - before.TotalAlloc; took > 1<<26 {
		t.Errorf("%d bytes of memory", took)
	}
}

// 8.4: made units there and back, and each with one thing turned.
func TestMadeUnits(t *testing.T) {
	sizes := 0
	for round := range 400 {
		m := &maker{state: uint64(round) + 1<<40}
		u := m.unit()
		checkEncode(t, "a made unit", u)
		b, _ := export.Encode(u)
		sizes += len(b)
		if len(b) > 3000 {
			continue
		}
		for _, other := range turned(u) {
			if c, e := export.Encode(other); e != api.OK || bytes.Equal(b, c) || export.Hash(u) == export.Hash(other) {
				t.Fatalf("%d: %+v and %+v", e, u, other)
			}
		}
	}
	if sizes < 400*500 {
		t.Errorf("%d bytes in all", sizes)
	}
}

// 8.4: units that have the same things, but not in the same places.
func TestUnlike(t *testing.T) {
	ofType := func(of api.Type) api.Unit { return api.Unit{Decls: []api.Decl{{Type: of}}} }
	one, two := []api.Type{{Kind: 1}}, []api.Type{{Kind: 1}, {Kind: 2}}
	stats, exprs := []api.MStat{{Op: 1}}, []api.MExpr{{Op: 1}}
	all := []api.Unit{
		{}, {Pkg: "\x00"}, {Pkg: "\x00\x00\x00\x00\x00\x00\x00\x00"}, {Imports: []api.Import{{}}}, {Decls: []api.Decl{{}}}, {Bodies: []api.MFunc{{}}}, {Imports: []api.Import{{}, {}}},
		ofType(api.Type{Pkg: "ab", Name: "c"}), ofType(api.Type{Pkg: "a", Name: "bc"}), ofType(api.Type{Name: "abc"}), ofType(api.Type{Pkg: "abc"}),
		ofType(api.Type{Args: one}), ofType(api.Type{Res: one}), ofType(api.Type{Args: two}), ofType(api.Type{Args: two[1:], Res: one}), ofType(api.Type{Args: one, Res: two[1:]}), ofType(api.Type{Args: []api.Type{{Kind: 1, Args: two[1:]}}}),
		{Decls: []api.Decl{{Name: "T"}}}, {Decls: []api.Decl{{Of: "T"}}}, {Decls: []api.Decl{{Kind: 1}}}, {Decls: []api.Decl{{Value: 1}}}, {Decls: []api.Decl{{Fields: []api.Field{{}}}}}, {Decls: []api.Decl{{}, {}}},
		{Bodies: []api.MFunc{{Params: 1}}}, {Bodies: []api.MFunc{{Locals: 1}}}, {Bodies: []api.MFunc{{Weak: true}}}, {Bodies: []api.MFunc{{Body: []api.MStat{{}}}}},
		ofStats(api.MStat{Op: 1}), ofStats(api.MStat{N: 1}), ofStats(api.MStat{Body: stats}), ofStats(api.MStat{Else: stats}), ofStats(api.MStat{Exprs: exprs}), ofStats(api.MStat{}, api.MStat{Op: 1}), ofStats(api.MStat{Op: 1}, api.MStat{}),
		ofStats(api.MStat{Exprs: []api.MExpr{{Op: 1}, {}}}), ofStats(api.MStat{Exprs: []api.MExpr{{Kids: exprs}}}), ofStats(api.MStat{Exprs: []api.MExpr{{N: 1}}}), ofStats(api.MStat{Exprs: []api.MExpr{{Name: "\x01"}}}),
	}
	for i, u := range all {
		checkEncode(t, "unlike", u)
		for j := range i {
			a, _ := export.Encode(all[j])
			if b, _ := export.Encode(u); bytes.Equal(a, b) || export.Hash(u) == export.Hash(all[j]) {
				t.Errorf("%+v and %+v", all[j], u)
			}
		}
	}
}

// R3: nil and empty lists are one; lists that are handed in twice are written twice.
func TestLists(t *testing.T) {
	empty := api.Unit{Imports: []api.Import{}, Decls: []api.Decl{{Type: api.Type{Args: []api.Type{}, Res: []api.Type{}}, Fields: []api.Field{}}}, Bodies: []api.MFunc{{Body: []api.MStat{{Exprs: []api.MExpr{{Kids: []api.MExpr{}}}, Body: []api.MStat{}, Else: []api.MStat{}}}}}}
	a, e := export.Encode(empty)
	if b, f := export.Encode(tidied(empty)); e != api.OK || f != api.OK || !bytes.Equal(a, b) {
		t.Errorf("%d, %d: %v, %v", e, f, a, b)
	}
	shared := []api.MStat{{Op: 1, Exprs: []api.MExpr{{Name: "e"}}}}
	checkEncode(t, "shared", ofStats(api.MStat{Body: shared, Else: shared}, shared[0]))
}

// room is a list with what lies behind its length.
func room(v reflect.Value) reflect.Value { return v.Slice(0, v.Cap()) }

// lists hands all lists of a thing to f, each with its spare room, what lies in that too.
func lists(v reflect.Value, f func(reflect.Value)) {
	switch v.Kind() {
	case reflect.Slice:
		f(room(v))
		for i := range v.Cap() {
			lists(room(v).Index(i), f)
		}
	case reflect.Struct:
		for i := range v.NumField() {
			lists(v.Field(i), f)
		}
	}
}

// whole is a copy of a unit with the spare room of its lists as parts of them.
func whole(v reflect.Value) reflect.Value {
	made := reflect.New(v.Type()).Elem()
	switch v.Kind() {
	case reflect.Slice:
		for i := range v.Cap() {
			made.Set(reflect.Append(made, whole(room(v).Index(i))))
		}
	case reflect.Struct:
		for i := range v.NumField() {
			made.Field(i).Set(whole(v.Field(i)))
		}
	default:
		made.Set(v)
	}
	return made
}

// R3: what lies behind lists' lengths is neither read nor written, what is handed in not changed.
func TestHandedIn(t *testing.T) {
	for round := range 300 {
		m := &maker{state: uint64(round) + 1<<41}
		u := m.unit()
		want, _ := modelFile(u)
		handed := roomy(u)
		before := whole(reflect.ValueOf(handed)).Interface()
		b, e := export.Encode(handed)
		if e != api.OK || !bytes.Equal(b, want) || export.Hash(handed) != modelSum(want) || !reflect.DeepEqual(whole(reflect.ValueOf(handed)).Interface(), before) {
			t.Fatalf("Encode: %d, of %+v", e, u)
		}
		behind := append(bytes.Clone(want), "what lies behind"...)
		again, e := export.Decode(behind[:len(want)])
		if e != api.OK || !same(again, u) || export.Sum(behind[:len(want)]) != modelSum(want) || string(behind) != string(want)+"what lies behind" {
			t.Fatalf("Decode: %d, of %+v", e, u)
		}
	}
}

// R3: answers share nothing with what was handed in, with each other, nor their lists among themselves.
func TestApart(t *testing.T) {
	u := full()
	b, _ := export.Encode(u)
	other, _ := export.Encode(u)
	want := bytes.Clone(b)
	lists(reflect.ValueOf(u), func(list reflect.Value) { list.Clear() })
	clear(other[:cap(other)])
	if !bytes.Equal(b, want) {
		t.Error("bytes that change with the unit, or with others")
	}

	first, _ := export.Decode(b)
	second, _ := export.Decode(b)
	clear(b[:cap(b)])
	lists(reflect.ValueOf(second), func(list reflect.Value) { list.Clear() })
	if !same(first, full()) {
		t.Error("a unit that changes with the bytes, or with others")
	}
	spans := map[uintptr]uintptr{}
	lists(reflect.ValueOf(first), func(list reflect.Value) {
		from := list.Pointer()
		to := from + uintptr(list.Cap())*list.Type().Elem().Size()
		for a, b := range spans {
			if from < b && a < to {
				t.Error("lists that share memory")
			}
		}
		if list.Cap() > 0 {
			spans[from] = to
		}
	})
	if len(spans) != 12 {
		t.Errorf("%d lists", len(spans))
	}
}

// R5: the same call makes the same, whatever else was asked.
func TestAgain(t *testing.T) {
	want, _ := modelFile(full())
	for range 3 {
		export.Encode(api.Unit{Pkg: strings.Repeat("x", api.MaxBytes)})
		export.Decode(want[:40])
		export.Encode(api.Unit{Decls: []api.Decl{{Type: typeIn(200)}}})
		checkEncode(t, "again", full())
	}
}
