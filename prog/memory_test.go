package prog_test

import (
	"cmp"
	"reflect"
	"runtime"
	"slices"
	"strings"
	"sync"
	"testing"
	"unsafe"

	"mortise/api"
	"mortise/prog"
)

// spoil overwrites all that an answer's lists lead to, their spare room too.
func spoil(v reflect.Value) {
	switch v.Kind() {
	case reflect.Slice:
		all := v.Slice(0, v.Cap())
		for i := range v.Cap() {
			spoil(all.Index(i))
		}
	case reflect.Struct:
		for i := range v.NumField() {
			spoil(v.Field(i))
		}
	case reflect.String:
		v.SetString("spoiled")
	case reflect.Int, reflect.Int64:
		v.SetInt(99)
	}
}

// span is where in memory a list, with its spare room, or a text lies.
type span struct{ from, to uintptr }

func spans(v reflect.Value) []span {
	var all []span
	switch v.Kind() {
	case reflect.Slice:
		if v.Cap() > 0 {
			all = append(all, span{v.Pointer(), v.Pointer() + uintptr(v.Cap())*v.Type().Elem().Size()})
		}
		for i := range v.Len() {
			all = append(all, spans(v.Index(i))...)
		}
	case reflect.Struct:
		for i := range v.NumField() {
			all = append(all, spans(v.Field(i))...)
		}
	case reflect.String:
		if s := v.String(); s != "" {
			from := uintptr(unsafe.Pointer(unsafe.StringData(s)))
			all = append(all, span{from, from + uintptr(len(s))})
		}
	}
	return all
}

// program is a made program that is one, of some packages.
func program(state uint64) *maker {
	for {
		m := &maker{state: state}
		m.make()
		if _, _, e := m.want(); e == api.OK && len(m.packs) > 2 {
			return m
		}
		state += 1 << 32
	}
}

// R3: what is handed in stays as it is, and what is behind it is not read; what is answered is not kept.
func TestKept(t *testing.T) {
	for round := range 30 {
		m := program(uint64(round))
		room := append(m.texts(), "package a; x", "package main;", bareMain)
		texts := room[:len(m.packs)]
		was := slices.Clone(room)
		for range 2 {
			checkMade(t, m)
			order, us, _, _ := prog.Load(texts)
			if want, _, _ := m.want(); !slices.Equal(order, want) || !slices.Equal(prog.Named(texts), m.named(order)) {
				t.Fatalf("%q: %v, %v", texts, order, prog.Named(texts))
			}
			names := prog.Named(texts)
			spoil(reflect.ValueOf(order))
			spoil(reflect.ValueOf(us))
			spoil(reflect.ValueOf(names))
			if !slices.Equal(room, was) {
				t.Fatalf("%q: what was handed in is another", was)
			}
		}
	}
}

// R3: no two lists or texts of an answer lie in the same memory, nor in that of the texts that were handed in.
func TestShares(t *testing.T) {
	for round := range 30 {
		texts := program(uint64(round) + 1<<20).texts()
		order, us, _, _ := prog.Load(texts)
		answer := slices.Concat(spans(reflect.ValueOf(order)), spans(reflect.ValueOf(us)))
		if len(answer) < 100 {
			t.Fatalf("%q: %d lists and texts", texts, len(answer))
		}
		for _, s := range answer {
			for _, other := range spans(reflect.ValueOf(texts)) {
				if s.from < other.to && other.from < s.to {
					t.Fatalf("%q: memory of a text is answered", texts)
				}
			}
		}
		slices.SortFunc(answer, func(a, b span) int { return cmp.Compare(a.from, b.from) })
		for i := range answer[1:] {
			if answer[i].to > answer[i+1].from {
				t.Fatalf("%q: two lists or texts share memory", texts)
			}
		}
	}
}

// R5: what is answered hangs on nothing but the texts.
func TestAtOnce(t *testing.T) {
	texts := program(1 << 21).texts()
	order, us, _, _ := prog.Load(texts)
	names := prog.Named(texts)
	var all sync.WaitGroup
	for round := range 8 {
		all.Go(func() {
			prog.Load(program(uint64(round)).texts())
			again, units, _, e := prog.Load(texts)
			if e != api.OK || !slices.Equal(again, order) || !same(units, us) || !slices.Equal(prog.Named(texts), names) {
				t.Errorf("%q: another answer", texts)
			}
		})
	}
	all.Wait()
}

// within is the text of a function's type that has so many parts, all but functions' types being one.
func within(of string, parts int) string {
	parts--
	var args []string
	for i := range api.MaxList {
		n := (parts + i) / api.MaxList
		switch {
		case n == 1:
			args = append(args, of)
		case n > 1:
			args = append(args, within(of, n))
		}
	}
	return "func(" + strings.Join(args, ",") + ")"
}

// R1, R6: types may be much longer than the text in which they come up, and come up often; what is answered is short, and so must be what it takes.
func TestLongTypes(t *testing.T) {
	const head = "package main; func G[T any](x T) "
	text := head + within("T", 700) + " { return nil; } var v " + within("I", 200) + "; type I interface { } func main() { x := G(v);"
	for _, c := range []struct {
		stat  string
		times int
	}{{" G(v);", 250}, {" x = x;", 250}, {" x = G(v);", 150}} {
		s := text + strings.Repeat(c.stat, c.times) + " }"
		var ahead, behind runtime.MemStats
		runtime.ReadMemStats(&ahead)
		checkTold(t, []told{{"[0]", []string{s}}})
		runtime.ReadMemStats(&behind)
		if taken := behind.TotalAlloc - ahead.TotalAlloc; taken > 1<<28 {
			t.Errorf("%s %d times: %d bytes of memory for %d of text", c.stat, c.times, taken, len(s))
		}
	}
}
