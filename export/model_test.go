package export_test

import (
	"encoding/binary"
	"hash/fnv"
	"reflect"

	"mortise/api"
)

// The functions of this file tell the chapter a second time, by what api's structs say of themselves.

// modelWriter writes anything of api, and keeps where what stands.
type modelWriter struct {
	bytes []byte
	marks []place
}

// place is where a length or a bool stands.
type place struct {
	at   int
	flag bool
}

func (w *modelWriter) word(n int64) {
	w.bytes = binary.LittleEndian.AppendUint64(w.bytes, uint64(n))
}

func (w *modelWriter) length(n int) {
	w.marks = append(w.marks, place{at: len(w.bytes)})
	w.word(int64(n))
}

func (w *modelWriter) put(v reflect.Value) {
	switch v.Kind() {
	case reflect.Int, reflect.Int64:
		w.word(v.Int())
	case reflect.Bool:
		w.marks = append(w.marks, place{len(w.bytes), true})
		w.word(map[bool]int64{true: 1}[v.Bool()])
	case reflect.String:
		w.length(v.Len())
		w.bytes = append(w.bytes, v.String()...)
	case reflect.Slice:
		w.length(v.Len())
		for i := range v.Len() {
			w.put(v.Index(i))
		}
	case reflect.Struct:
		for i := range v.NumField() {
			w.put(v.Field(i))
		}
	}
}

// modelFile are a unit's bytes, whether they may be or not, and where the lengths and bools stand.
func modelFile(u api.Unit) ([]byte, []place) {
	w := modelWriter{bytes: []byte{'M', 'U', '1', 10}}
	w.put(reflect.ValueOf(u))
	return summed(w.bytes), w.marks
}

// summed are bytes with their sum behind them.
func summed(b []byte) []byte {
	return binary.LittleEndian.AppendUint64(append([]byte{}, b...), uint64(modelSum(b)))
}

// unsummed are bytes without the sum behind them, in memory of their own.
func unsummed(b []byte) []byte {
	return append([]byte{}, b[:len(b)-8]...)
}

func modelSum(b []byte) int64 {
	h := fnv.New64a()
	h.Write(b)
	return int64(h.Sum64())
}

// modelDepth is in how many Types, MExprs and MStats the deepest one of them stands, -1 if there is none.
func modelDepth(v reflect.Value, in int) int {
	deepest := -1
	switch v.Interface().(type) {
	case api.Type, api.MExpr, api.MStat:
		deepest = in
		in++
	}
	switch v.Kind() {
	case reflect.Slice:
		for i := range v.Len() {
			deepest = max(deepest, modelDepth(v.Index(i), in))
		}
	case reflect.Struct:
		for i := range v.NumField() {
			deepest = max(deepest, modelDepth(v.Field(i), in))
		}
	}
	return deepest
}

func modelEncode(u api.Unit) ([]byte, api.Errno) {
	if modelDepth(reflect.ValueOf(u), 0) > api.MaxDepth {
		return nil, api.ErrDeep
	}
	b, _ := modelFile(u)
	if len(b) > api.MaxBytes {
		return nil, api.ErrLong
	}
	return b, api.OK
}

// same tells whether two units are one, if nil and empty lists are.
func same(a, b api.Unit) bool { return reflect.DeepEqual(tidied(a), tidied(b)) }

// tidied is a unit in memory of its own, of which no list is empty.
func tidied(u api.Unit) api.Unit {
	return rebuilt(reflect.ValueOf(u), 0).Interface().(api.Unit)
}

// roomy is a unit whose lists, each with parts, have spare room with parts in it.
func roomy(u api.Unit) api.Unit {
	return rebuilt(reflect.ValueOf(u), 3).Interface().(api.Unit)
}

func rebuilt(v reflect.Value, spare int) reflect.Value {
	made := reflect.New(v.Type()).Elem()
	switch {
	case v.Kind() == reflect.Slice && v.Len() > 0:
		list := reflect.MakeSlice(v.Type(), v.Len()+spare, v.Len()+spare)
		for i := range v.Len() + spare {
			list.Index(i).Set(rebuilt(v.Index(i%v.Len()), spare))
		}
		made.Set(list.Slice(0, v.Len()))
	case v.Kind() == reflect.Slice:
	case v.Kind() == reflect.Struct:
		for i := range v.NumField() {
			made.Field(i).Set(rebuilt(v.Field(i), spare))
		}
	default:
		made.Set(v)
	}
	return made
}

// maker makes units.
type maker struct{ state uint64 }

// upTo is a number below n, the same ones in each run.
func (m *maker) upTo(n int) int {
	m.state = m.state*6364136223846793005 + 1442695040888963407
	return int(m.state >> 33 % uint64(n))
}

func pick[T any](m *maker, of ...T) T { return of[m.upTo(len(of))] }

func (m *maker) number() int64 {
	return pick(m, 0, 1, -1, 255, 256, 1<<31, -1<<31-1, 1<<62, -1<<63, 1<<63-1, int64(m.upTo(1<<30))<<m.upTo(34))
}

func (m *maker) text() string {
	return pick(m, "", "", "a", "p.f", "T", "ab", "\x00", "\xff\xfe", "é", "MU1\n", "a name of thirty bytes or more")
}

// fill makes anything of api, in which lists stand so deep at most.
func (m *maker) fill(v reflect.Value, deep int) {
	switch v.Kind() {
	case reflect.Int, reflect.Int64:
		v.SetInt(m.number())
	case reflect.Bool:
		v.SetBool(m.upTo(2) == 1)
	case reflect.String:
		v.SetString(m.text())
	case reflect.Slice:
		if deep == 0 {
			return
		}
		n := m.upTo(4)
		v.Set(reflect.MakeSlice(v.Type(), n, n))
		for i := range n {
			m.fill(v.Index(i), deep-1)
		}
	case reflect.Struct:
		for i := range v.NumField() {
			m.fill(v.Field(i), deep)
		}
	}
}

func (m *maker) unit() api.Unit {
	var u api.Unit
	m.fill(reflect.ValueOf(&u).Elem(), m.upTo(5))
	return u
}

// turned are units that are unlike a unit in just one thing.
func turned(u api.Unit) []api.Unit {
	var all []api.Unit
	for _, v := range turns(reflect.ValueOf(u)) {
		all = append(all, v.Interface().(api.Unit))
	}
	return all
}

func turns(v reflect.Value) []reflect.Value {
	var all []reflect.Value
	with := func(turn func(reflect.Value)) {
		made := rebuilt(v, 0)
		turn(made)
		all = append(all, made)
	}
	switch v.Kind() {
	case reflect.Int, reflect.Int64:
		with(func(n reflect.Value) { n.SetInt(n.Int() + 1) })
		with(func(n reflect.Value) { n.SetInt(n.Int() ^ -1<<(n.Type().Bits()-1)) })
	case reflect.Bool:
		with(func(is reflect.Value) { is.SetBool(!is.Bool()) })
	case reflect.String:
		with(func(s reflect.Value) { s.SetString(s.String() + "\x00") })
		with(func(s reflect.Value) { s.SetString("\xff" + s.String()) })
	case reflect.Slice:
		return listTurns(v)
	case reflect.Struct:
		for i := range v.NumField() {
			for _, part := range turns(v.Field(i)) {
				with(func(s reflect.Value) { s.Field(i).Set(part) })
			}
		}
	}
	return all
}

// listTurns are lists with a part more, with each part away, and with each part turned.
func listTurns(v reflect.Value) []reflect.Value {
	none := reflect.Zero(v.Type().Elem())
	all := []reflect.Value{reflect.Append(rebuilt(v, 0), none)}
	for i := range v.Len() {
		made := rebuilt(v, 0)
		all = append(all, reflect.AppendSlice(made.Slice(0, i), made.Slice(i+1, v.Len())))
		for _, part := range turns(v.Index(i)) {
			made := rebuilt(v, 0)
			made.Index(i).Set(part)
			all = append(all, made)
		}
	}
	return all
}
