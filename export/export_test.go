package export_test

import (
	"bytes"
	"math/big"
	"reflect"
	"strings"
	"testing"

	"mortise/api"
	"mortise/export"
)

// full is a unit in which each field of each struct has a value of its own.
func full() api.Unit {
	leaf := api.Type{Kind: 9, Pkg: "pkg", Name: "V"}
	fn := api.Type{Kind: 7, Pkg: "a", Name: "bc", Args: []api.Type{leaf, {Kind: 1}}, Res: []api.Type{{Kind: -2}}}
	expr := api.MExpr{Op: 3, N: -1, Name: "e", Kids: []api.MExpr{{Op: 1, N: 1 << 40}, {Op: 2, Name: "\x00\xff"}}}
	stat := api.MStat{Op: 5, N: 6, Exprs: []api.MExpr{expr}, Body: []api.MStat{{Op: 7}, {Op: 8, Exprs: []api.MExpr{{}}}}, Else: []api.MStat{{N: 9}}}
	return api.Unit{
		Pkg:     "p",
		Imports: []api.Import{{Name: "q", Hash: -5}, {Name: "", Hash: -1 << 63}},
		Decls:   []api.Decl{{Kind: 6, Name: "m", Of: "T", Value: 1<<63 - 1, Type: fn, Fields: []api.Field{{Name: "x", Type: leaf}, {}}}, {Kind: 1, Name: "c", Value: 300}},
		Bodies:  []api.MFunc{{Name: "p.f", Weak: true, Params: 1, Locals: 2, Body: []api.MStat{stat, {}}}, {}},
	}
}

// file is the bytes of parts, with the mark ahead and the sum behind: a text stands as its bytes alone.
func file(parts ...any) []byte {
	b := []byte("MU1\n")
	for _, part := range parts {
		switch part := part.(type) {
		case int:
			for i := range 8 {
				b = append(b, byte(int64(part)>>(8*i)))
			}
		case string:
			b = append(b, part...)
		}
	}
	return summed(b)
}

// checkRefused holds that there is no unit of such bytes.
func checkRefused(t *testing.T, what string, b []byte) {
	t.Helper()
	if u, e := export.Decode(b); e != api.ErrForm || !reflect.DeepEqual(u, api.Unit{}) {
		t.Errorf("%s: %d, %+v", what, e, u)
	}
}

// checkEncode holds Encode, Hash and Decode of a unit against the second telling.
func checkEncode(t *testing.T, what string, u api.Unit) {
	t.Helper()
	want, refusal := modelEncode(u)
	b, e := export.Encode(u)
	if e != refusal || !bytes.Equal(b, want) {
		t.Errorf("%s: Encode: %d and %d bytes, want %d and %d bytes", what, e, len(b), refusal, len(want))
	}
	hash := int64(0)
	if refusal == api.OK {
		hash = modelSum(want)
	}
	if h := export.Hash(u); h != hash {
		t.Errorf("%s: Hash: %d, want %d", what, h, hash)
	}
	if refusal != api.OK {
		raw, _ := modelFile(u)
		checkRefused(t, what, raw)
		return
	}
	if again, e := export.Decode(want); e != api.OK || !same(again, u) {
		t.Errorf("%s: Decode: %d, %+v, want %+v", what, e, again, u)
	}
}

// plainSum is 8.1 as its words stand, with plain numbers.
func plainSum(b []byte) int64 {
	sum, _ := new(big.Int).SetString("14695981039346656037", 10)
	factor := big.NewInt(1099511628211)
	all := new(big.Int).Lsh(big.NewInt(1), 64)
	for _, c := range b {
		sum.Xor(sum, big.NewInt(int64(c)))
		sum.Mul(sum, factor)
		sum.Mod(sum, all)
	}
	if sum.Bit(63) == 1 {
		sum.Sub(sum, all)
	}
	return sum.Int64()
}

// 8.1: sums that are known, each byte alone and behind others, and longer bytes.
func TestSum(t *testing.T) {
	for s, want := range map[string]int64{"": -3750763034362895579, "a": -5808556873153909620, "foobar": -8821353812377114648} {
		if got := export.Sum([]byte(s)); got != want {
			t.Errorf("of %q: %d, want %d", s, got, want)
		}
	}
	if export.Sum(nil) != export.Sum([]byte{}) {
		t.Error("nil and empty")
	}
	m := &maker{state: 1}
	for i := range 256 {
		behind := []byte("as is")
		for range i {
			behind = append(behind, byte(m.upTo(256)))
		}
		for _, b := range [][]byte{{byte(i)}, {byte(i), byte(i)}, append(behind, byte(i))} {
			if got, want := export.Sum(b), plainSum(b); got != want {
				t.Errorf("of %v: %d, want %d", b, got, want)
			}
		}
	}
}

// 8.2: the chapter's example, and bytes that are written out here.
func TestLayout(t *testing.T) {
	leaf := []any{9, 3, "pkg", 1, "V", 0, 0}
	fn := append(append([]any{7, 1, "a", 2, "bc", 2}, leaf...), 1, 0, 0, 0, 0, 1, -2, 0, 0, 0, 0)
	zero := []any{0, 0, 0, 0, 0}
	expr := []any{3, -1, 1, "e", 2, 1, 1 << 40, 0, 0, 2, 0, 2, "\x00\xff", 0}
	stat := append(append([]any{5, 6, 1}, expr...), 2, 7, 0, 0, 0, 0, 8, 0, 1, 0, 0, 0, 0, 0, 0, 1, 0, 9, 0, 0, 0)
	var parts []any
	for _, part := range [][]any{
		{1, "p"}, {2, 1, "q", -5, 0, -1 << 63},
		{2, 6, 1, "m", 1, "T", 1<<63 - 1}, fn, {2, 1, "x"}, leaf, {0}, zero, {1, 1, "c", 0, 300}, zero, {0},
		{2, 3, "p.f", 1, 1, 2, 2}, stat, zero, {0, 0, 0, 0, 0},
	} {
		parts = append(parts, part...)
	}
	for _, c := range []struct {
		what string
		u    api.Unit
		want []byte
	}{
		{"the example", api.Unit{Pkg: "a"}, file(1, "a", 0, 0, 0)},
		{"nothing", api.Unit{}, file(0, 0, 0, 0)},
		{"all", full(), file(parts...)},
	} {
		if b, e := export.Encode(c.u); e != api.OK || !bytes.Equal(b, c.want) {
			t.Errorf("%s: %d, %v, want %v", c.what, e, b, c.want)
		}
		checkEncode(t, c.what, c.u)
	}
	if b, _ := export.Encode(api.Unit{Pkg: "a"}); len(b) != 4+9+8+8+8+8 {
		t.Errorf("the example: %d bytes", len(b))
	}
}

// typeIn is a type in which another one stands in so many, now among the Args, now among the Res.
func typeIn(others int) api.Type {
	t := api.Type{Kind: 1}
	for i := range others {
		t = api.Type{Kind: 7, Args: []api.Type{t}}
		if i%2 == 0 {
			t = api.Type{Kind: 7, Args: []api.Type{{Kind: 2}}, Res: []api.Type{{Kind: 3}, t.Args[0]}}
		}
	}
	return t
}

// exprIn is an expression in which another one stands in so many.
func exprIn(others int) api.MExpr {
	e := api.MExpr{Op: 1}
	for range others {
		e = api.MExpr{Op: 4, Kids: []api.MExpr{{Op: 1}, e}}
	}
	return e
}

// statIn is a statement in which another one stands in so many, now in the Body, now in the Else.
func statIn(others int, inner api.MStat) api.MStat {
	s := inner
	for i := range others {
		if i%2 == 0 {
			s = api.MStat{Op: 5, Body: []api.MStat{{Op: 8}}, Else: []api.MStat{{Op: 7}, s}}
		} else {
			s = api.MStat{Op: 6, Exprs: []api.MExpr{{Op: 1}}, Body: []api.MStat{{Op: 7}, s, {Op: 8}}}
		}
	}
	return s
}

// ofStats is a unit whose second body has these statements behind another one.
func ofStats(s ...api.MStat) api.Unit {
	return api.Unit{Bodies: []api.MFunc{{Name: "first"}, {Body: append([]api.MStat{{}}, s...)}}}
}

// places are units in which something stands in just so many others, in each place where it can.
func places(others int) map[string]api.Unit {
	field := []api.Field{{}, {Type: typeIn(others)}}
	return map[string]api.Unit{
		"a declaration's type":      {Decls: []api.Decl{{}, {Type: typeIn(others)}}},
		"a field's type":            {Decls: []api.Decl{{Fields: field}}},
		"a type, a body beside it":  {Decls: []api.Decl{{Type: typeIn(others)}}, Bodies: []api.MFunc{{Body: []api.MStat{{}}}}},
		"a statement":               ofStats(statIn(others, api.MStat{})),
		"a statement of the first":  {Bodies: []api.MFunc{{Body: []api.MStat{statIn(others, api.MStat{}), {}}}, {}}},
		"an expression":             ofStats(api.MStat{Exprs: []api.MExpr{{}, exprIn(others - 1)}}),
		"an expression far within":  ofStats(statIn(others/2, api.MStat{Exprs: []api.MExpr{exprIn(others - others/2 - 1)}})),
		"an expression, just there": ofStats(statIn(others-1, api.MStat{Exprs: []api.MExpr{{}}})),
	}
}

// 8.2, 8.3: as deep as may be, and one deeper.
func TestDeep(t *testing.T) {
	for _, others := range []int{1, api.MaxDepth - 1, api.MaxDepth, api.MaxDepth + 1, api.MaxDepth + 2, 1000} {
		for what, u := range places(others) {
			want := api.OK
			if others > api.MaxDepth {
				want = api.ErrDeep
			}
			if b, e := export.Encode(u); e != want || (len(b) == 0) != (want != api.OK) {
				t.Errorf("%s in %d others: %d", what, others, e)
			}
			checkEncode(t, what, u)
		}
	}
}

// 8.2: what stands beside others does not stand in them, and neither a declaration nor a body counts.
func TestBeside(t *testing.T) {
	many := make([]api.Type, 3*api.MaxDepth)
	u := api.Unit{Decls: []api.Decl{{Type: api.Type{Args: many, Res: many}}, {Type: typeIn(api.MaxDepth), Fields: []api.Field{{Type: typeIn(api.MaxDepth)}}}}}
	for range 3 * api.MaxDepth {
		u.Decls = append(u.Decls, api.Decl{})
		u.Bodies = append(u.Bodies, api.MFunc{Body: []api.MStat{{Exprs: []api.MExpr{{}}}}})
	}
	if _, e := export.Encode(u); e != api.OK {
		t.Errorf("Encode: %d", e)
	}
	checkEncode(t, "beside", u)
}

// R1: lists that stand in themselves are too deep.
func TestInItself(t *testing.T) {
	for n := range 3 {
		types, exprs, stats := make([]api.Type, n+1), make([]api.MExpr, n+1), make([]api.MStat, n+1)
		results, elses := make([]api.Type, n+1), make([]api.MStat, n+1)
		types[n].Args, results[0].Res, exprs[n].Kids, stats[n].Body, elses[0].Else = types, results, exprs, stats, elses
		all := make([]api.Type, 3)
		for i := range all {
			all[i] = api.Type{Args: all, Res: all}
		}
		for i, u := range []api.Unit{
			{Decls: []api.Decl{{Type: types[0]}, {Type: types[n]}}}, {Decls: []api.Decl{{Fields: []api.Field{{}, {Type: results[0]}}}}},
			ofStats(api.MStat{Exprs: exprs}), ofStats(stats...), ofStats(elses...), {Decls: []api.Decl{{Type: all[0]}}},
		} {
			if b, e := export.Encode(u); e != api.ErrDeep || len(b) != 0 || export.Hash(u) != 0 {
				t.Errorf("case %d of %d parts: %d", i, n+1, e)
			}
		}
	}
}

// padded is a unit whose Pkg is such that there would be so many bytes of it.
func padded(u api.Unit, bytes int) api.Unit {
	u.Pkg = ""
	b, _ := modelFile(u)
	u.Pkg = strings.Repeat("x", bytes-len(b))
	return u
}

// 8.2, 8.3: just as long as may be, and longer by each number of bytes, so that each last part is once the one too many.
func TestLong(t *testing.T) {
	ends := map[string]api.Unit{
		"nothing": {}, "all": full(), "imports": {Imports: []api.Import{{Name: "q"}, {Name: "a long name"}}},
		"declarations": {Decls: []api.Decl{{Name: "n", Type: typeIn(3), Fields: []api.Field{{Name: "last"}}}}}, "bodies": {Bodies: []api.MFunc{{Weak: true, Body: []api.MStat{{Exprs: []api.MExpr{exprIn(2)}}}}}},
	}
	for what, end := range ends {
		for over := -9; over < 120; over++ {
			u := padded(end, api.MaxBytes+over)
			want := api.OK
			if over > 0 {
				want = api.ErrLong
			}
			if b, e := export.Encode(u); e != want || e == api.OK && len(b) != api.MaxBytes+over {
				t.Fatalf("%s, over by %d: %d, %d bytes", what, over, e, len(b))
			}
			if over < 12 {
				checkEncode(t, what, u)
			}
		}
	}
}

// 8.2: too long by each list and text.
func TestTooLong(t *testing.T) {
	text := strings.Repeat("x", api.MaxBytes)
	const many = api.MaxBytes
	for i, u := range []api.Unit{
		{Imports: make([]api.Import, many)}, {Decls: make([]api.Decl, many)}, {Bodies: make([]api.MFunc, many)}, {Imports: []api.Import{{}, {Name: text}}},
		{Decls: []api.Decl{{Name: text}}}, {Decls: []api.Decl{{Of: text}}}, {Decls: []api.Decl{{Fields: make([]api.Field, many)}}}, {Decls: []api.Decl{{Fields: []api.Field{{Name: text}}}}},
		{Decls: []api.Decl{{Type: api.Type{Pkg: text}}}}, {Decls: []api.Decl{{Type: api.Type{Name: text}}}}, {Decls: []api.Decl{{Type: api.Type{Args: make([]api.Type, many)}}}}, {Decls: []api.Decl{{Type: api.Type{Res: make([]api.Type, many)}}}},
		{Bodies: []api.MFunc{{Name: text}}}, ofStats(make([]api.MStat, many)...), ofStats(api.MStat{Exprs: make([]api.MExpr, many)}), ofStats(api.MStat{Exprs: []api.MExpr{{Name: text}}}),
		ofStats(api.MStat{Exprs: []api.MExpr{{Kids: make([]api.MExpr, many)}}}), ofStats(api.MStat{Body: make([]api.MStat, many)}), ofStats(api.MStat{Else: make([]api.MStat, many)}), {Pkg: strings.Repeat("x", 1<<26)},
		{Imports: []api.Import{{Name: text}, {}}, Bodies: []api.MFunc{{Name: "what stands behind"}}},
	} {
		if b, e := export.Encode(u); e != api.ErrLong || len(b) != 0 || export.Hash(u) != 0 {
			t.Errorf("case %d: %d, %d bytes", i, e, len(b))
		}
		// R2: too deep comes first, wherever that stands.
		u.Decls = append(u.Decls, api.Decl{Type: typeIn(api.MaxDepth + 1)})
		if b, e := export.Encode(u); e != api.ErrDeep || len(b) != 0 {
			t.Errorf("case %d, and deep: %d, %d bytes", i, e, len(b))
		}
	}
	u := ofStats(statIn(api.MaxDepth+1, api.MStat{}))
	u.Pkg = text
	if _, e := export.Encode(u); e != api.ErrDeep {
		t.Errorf("deep behind long: %d", e)
	}
}

// R1: lists of very many parts, one list in many places.
func TestWide(t *testing.T) {
	if _, e := export.Encode(api.Unit{Imports: make([]api.Import, 1<<22)}); e != api.ErrLong {
		t.Errorf("imports: %d", e)
	}
	wide := api.Type{Kind: 1}
	for range 20 {
		wide = api.Type{Kind: 7, Args: []api.Type{wide, wide}}
	}
	if _, e := export.Encode(api.Unit{Decls: []api.Decl{{Type: wide}}}); e != api.ErrLong {
		t.Errorf("types: %d", e)
	}
}
