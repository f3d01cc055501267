package word_test

import (
	"math"
	"math/big"
	"testing"

	"mortise/api"
	"mortise/word"
)

const (
	least = math.MinInt64
	most  = math.MaxInt64
)

type binCase struct {
	op   int
	a, b int64
	want int64
	code int
}

func checkBin(t *testing.T, cases []binCase) {
	t.Helper()
	for _, c := range cases {
		if got, code := word.Bin(c.op, c.a, c.b); got != c.want || code != c.code {
			t.Errorf("Bin(%d, %d, %d) = %d, %d, want %d, %d", c.op, c.a, c.b, got, code, c.want, c.code)
		}
	}
}

// 1.1: sums, differences and products keep the lowest 64 bits.
func TestBinReckons(t *testing.T) {
	checkBin(t, []binCase{
		{api.Add, 2, 3, 5, 0},
		{api.Add, -3, 5, 2, 0},
		{api.Add, 0, 0, 0, 0},
		{api.Add, most, 1, least, 0},
		{api.Add, least, -1, most, 0},
		{api.Add, most, most, -2, 0},
		{api.Add, least, least, 0, 0},
		{api.Add, least, most, -1, 0},
		{api.Sub, 3, 5, -2, 0},
		{api.Sub, 5, 3, 2, 0},
		{api.Sub, least, 1, most, 0},
		{api.Sub, most, -1, least, 0},
		{api.Sub, 0, least, least, 0},
		{api.Sub, least, least, 0, 0},
		{api.Sub, -1, most, least, 0},
		{api.Mul, 6, 7, 42, 0},
		{api.Mul, -6, 7, -42, 0},
		{api.Mul, most, 0, 0, 0},
		{api.Mul, most, 2, -2, 0},
		{api.Mul, most, most, 1, 0},
		{api.Mul, least, -1, least, 0},
		{api.Mul, least, 2, 0, 0},
		{api.Mul, least, least, 0, 0},
		{api.Mul, 1 << 32, 1 << 31, least, 0},
		{api.Mul, 1 << 32, 1 << 32, 0, 0},
		{api.Mul, 1<<32 + 1, 1<<32 + 1, 1<<33 + 1, 0},
	})
}

// 1.1: quotients go towards 0, what is left over has the sign of a, and by 0 there is none.
func TestBinDivides(t *testing.T) {
	checkBin(t, []binCase{
		{api.Div, 7, 2, 3, 0},
		{api.Div, -7, 2, -3, 0},
		{api.Div, 7, -2, -3, 0},
		{api.Div, -7, -2, 3, 0},
		{api.Div, 1, 2, 0, 0},
		{api.Div, -1, 2, 0, 0},
		{api.Div, 0, 5, 0, 0},
		{api.Div, least, -1, least, 0},
		{api.Div, least, 1, least, 0},
		{api.Div, least, least, 1, 0},
		{api.Div, least, most, -1, 0},
		{api.Div, most, least, 0, 0},
		{api.Div, most, -1, -most, 0},
		{api.Div, least, 2, -1 << 62, 0},
		{api.Rem, 7, 2, 1, 0},
		{api.Rem, -7, 2, -1, 0},
		{api.Rem, 7, -2, 1, 0},
		{api.Rem, -7, -2, -1, 0},
		{api.Rem, 6, 3, 0, 0},
		{api.Rem, 0, 5, 0, 0},
		{api.Rem, least, -1, 0, 0},
		{api.Rem, least, 1, 0, 0},
		{api.Rem, least, least, 0, 0},
		{api.Rem, least, most, -1, 0},
		{api.Rem, most, least, most, 0},
		{api.Rem, least, 10, -8, 0},
	})
	for _, a := range []int64{least, -5, -1, 0, 1, 5, most} {
		checkBin(t, []binCase{
			{api.Div, a, 0, 0, api.PanicZero},
			{api.Rem, a, 0, 0, api.PanicZero},
		})
	}
}

// 1.1: And, Or and Xor go bit by bit.
func TestBinBits(t *testing.T) {
	checkBin(t, []binCase{
		{api.And, 12, 10, 8, 0},
		{api.And, -1, 10, 10, 0},
		{api.And, least, most, 0, 0},
		{api.And, least, -1, least, 0},
		{api.And, 0, -1, 0, 0},
		{api.Or, 12, 10, 14, 0},
		{api.Or, 0, 0, 0, 0},
		{api.Or, least, most, -1, 0},
		{api.Or, least, 1, least + 1, 0},
		{api.Xor, 12, 10, 6, 0},
		{api.Xor, -1, 10, -11, 0},
		{api.Xor, least, most, -1, 0},
		{api.Xor, least, least, 0, 0},
		{api.Xor, least, -1, most, 0},
	})
}

// 1.1: shifts go by the lowest six bits of b; Shr keeps the sign.
func TestBinShifts(t *testing.T) {
	checkBin(t, []binCase{
		{api.Shl, 5, 0, 5, 0},
		{api.Shl, 5, 3, 40, 0},
		{api.Shl, -5, 3, -40, 0},
		{api.Shl, 1, 63, least, 0},
		{api.Shl, 2, 63, 0, 0},
		{api.Shl, -1, 63, least, 0},
		{api.Shl, least, 1, 0, 0},
		{api.Shl, most, 1, -2, 0},
		{api.Shl, 1, 64, 1, 0},
		{api.Shl, 1, 65, 2, 0},
		{api.Shl, 1, 1000, 1 << (1000 % 64), 0},
		{api.Shl, 3, -1, least, 0},
		{api.Shl, 3, -64, 3, 0},
		{api.Shl, 3, -63, 6, 0},
		{api.Shl, 3, least, 3, 0},
		{api.Shl, 3, most, least, 0},
		{api.Shl, 3, 1 << 32, 3, 0},
		{api.Shr, 40, 0, 40, 0},
		{api.Shr, 40, 3, 5, 0},
		{api.Shr, -8, 1, -4, 0},
		{api.Shr, -7, 1, -4, 0},
		{api.Shr, -1, 63, -1, 0},
		{api.Shr, least, 63, -1, 0},
		{api.Shr, least, 62, -2, 0},
		{api.Shr, most, 62, 1, 0},
		{api.Shr, most, 63, 0, 0},
		{api.Shr, least, 64, least, 0},
		{api.Shr, 8, 65, 4, 0},
		{api.Shr, -8, 65, -4, 0},
		{api.Shr, least, -1, -1, 0},
		{api.Shr, 40, -61, 5, 0},
		{api.Shr, 40, -64, 40, 0},
		{api.Shr, 40, least, 40, 0},
		{api.Shr, most, most, 0, 0},
		{api.Shr, 40, 1 << 32, 40, 0},
	})
}

// 1.1: comparisons, at each order of two numbers; those far apart are told right although their difference passes 64 bits.
func TestBinCompares(t *testing.T) {
	less := [][2]int64{{2, 3}, {-3, -2}, {-1, 0}, {0, 1}, {-1, 1}, {least, most}, {least, 0}, {0, most}, {least, least + 1}, {most - 1, most}, {least, 1}, {-2, most}}
	for _, p := range less {
		a, b := p[0], p[1]
		checkBin(t, []binCase{
			{api.Eq, a, b, 0, 0}, {api.Ne, a, b, 1, 0},
			{api.Lt, a, b, 1, 0}, {api.Le, a, b, 1, 0}, {api.Gt, a, b, 0, 0}, {api.Ge, a, b, 0, 0},
			{api.Eq, b, a, 0, 0}, {api.Ne, b, a, 1, 0},
			{api.Lt, b, a, 0, 0}, {api.Le, b, a, 0, 0}, {api.Gt, b, a, 1, 0}, {api.Ge, b, a, 1, 0},
		})
	}
	for _, a := range []int64{least, -3, -1, 0, 1, 3, most} {
		checkBin(t, []binCase{
			{api.Eq, a, a, 1, 0}, {api.Ne, a, a, 0, 0},
			{api.Lt, a, a, 0, 0}, {api.Le, a, a, 1, 0}, {api.Gt, a, a, 0, 0}, {api.Ge, a, a, 1, 0},
		})
	}
}

// 1.1: every other op, those of texts alone too, is told by -1, whatever the numbers are.
func TestBinOthers(t *testing.T) {
	for _, op := range []int{api.AndAnd, api.OrOr, api.OrOr + 1, 0, -1, -api.Div, 64, 99, api.Add + 256, api.Add + 1<<32, math.MinInt, math.MaxInt} {
		for _, a := range edges() {
			checkBin(t, []binCase{{op, a, 0, 0, -1}, {op, a, 1, 0, -1}, {op, 1, a, 0, -1}})
		}
	}
}

// 1.2: operations of one word.
func TestUn(t *testing.T) {
	for _, c := range []struct {
		op      int
		a, want int64
	}{
		{api.Neg, 5, -5}, {api.Neg, -5, 5}, {api.Neg, 0, 0}, {api.Neg, least, least}, {api.Neg, most, least + 1},
		{api.Flip, 5, -6}, {api.Flip, -6, 5}, {api.Flip, 0, -1}, {api.Flip, least, most}, {api.Flip, most, least},
		{api.Bang, 5, 0}, {api.Bang, 1, 0}, {api.Bang, -1, 0}, {api.Bang, 0, 1}, {api.Bang, least, 0}, {api.Bang, most, 0}, {api.Bang, 1 << 32, 0},
	} {
		if got, code := word.Un(c.op, c.a); got != c.want || code != 0 {
			t.Errorf("Un(%d, %d) = %d, %d, want %d, 0", c.op, c.a, got, code, c.want)
		}
	}
}

// 1.2: every other op is told by -1.
func TestUnOthers(t *testing.T) {
	for _, op := range []int{0, 4, -1, -api.Neg, 99, api.Neg + 256, api.Neg + 1<<32, math.MinInt, math.MaxInt} {
		for _, a := range edges() {
			if got, code := word.Un(op, a); got != 0 || code != -1 {
				t.Errorf("Un(%d, %d) = %d, %d, want 0, -1", op, a, got, code)
			}
		}
	}
}

// edges are numbers where signs and widths turn over.
func edges() []int64 {
	list := []int64{0, least, least + 1, most}
	for bit := range 63 {
		power := int64(1) << bit
		list = append(list, power, -power)
		if bit == 7 || bit == 31 || bit == 62 {
			list = append(list, power-1, power+1, 1-power, -1-power)
		}
	}
	return list
}

// eachPair calls visit with all pairs of edges, and with many more pairs of all widths, the same ones in each run.
func eachPair(visit func(a, b int64)) {
	list := edges()
	for _, a := range list {
		for _, b := range list {
			visit(a, b)
		}
	}
	state := uint64(1)
	next := func() int64 {
		state = state*6364136223846793005 + 1442695040888963407
		mixed := (state ^ state>>32) * 0x9e3779b97f4a7c15
		return int64(mixed) >> (mixed >> 3 & 63)
	}
	for range 5000 {
		a := next()
		visit(a, next())
	}
}

// made is what Bin makes of two words for which the operation is there.
func made(t *testing.T, op int, a, b int64) int64 {
	t.Helper()
	got, code := word.Bin(op, a, b)
	if code != 0 {
		t.Fatalf("Bin(%d, %d, %d) has code %d, want 0", op, a, b, code)
	}
	return got
}

// 1.3: a is b times Div plus Rem, in 64 bits; Rem is nearer to 0 than b where b is not the least number.
func TestDivAndRemGoTogether(t *testing.T) {
	eachPair(func(a, b int64) {
		if b == 0 {
			return
		}
		quotient, rest := made(t, api.Div, a, b), made(t, api.Rem, a, b)
		if back := made(t, api.Add, made(t, api.Mul, b, quotient), rest); back != a {
			t.Errorf("%d times %d plus %d is %d, want %d", b, quotient, rest, back, a)
		}
		if b != least && far(rest).Cmp(far(b)) >= 0 {
			t.Errorf("Rem of %d by %d is %d, not nearer to 0", a, b, rest)
		}
		if rest != 0 && (rest < 0) != (a < 0) {
			t.Errorf("Rem of %d by %d is %d, of the other sign", a, b, rest)
		}
	})
}

// far is how far from 0 a number is; a word can't hold that of the least one.
func far(a int64) *big.Int {
	return new(big.Int).Abs(big.NewInt(a))
}

// 1.3: just one of Lt, Eq, Gt holds; the other three are their opposites.
func TestOneOrderHolds(t *testing.T) {
	eachPair(func(a, b int64) {
		less, same, more := made(t, api.Lt, a, b), made(t, api.Eq, a, b), made(t, api.Gt, a, b)
		for _, held := range []int64{less, same, more} {
			if held != 0 && held != 1 {
				t.Errorf("a comparison of %d and %d is %d", a, b, held)
			}
		}
		if less+same+more != 1 {
			t.Errorf("of %d and %d: Lt %d, Eq %d, Gt %d", a, b, less, same, more)
		}
		if made(t, api.Ge, a, b) != 1-less || made(t, api.Ne, a, b) != 1-same || made(t, api.Le, a, b) != 1-more {
			t.Errorf("of %d and %d: Ge, Ne, Le are not the opposites of Lt, Eq, Gt", a, b)
		}
	})
}

// 1.1: what is reckoned in numbers of any length, and cut to its lowest 64 bits, is what Bin makes.
func TestBinAsPlainNumbers(t *testing.T) {
	plain := []struct {
		op     int
		reckon func(z, a, b *big.Int) *big.Int
	}{
		{api.Add, (*big.Int).Add},
		{api.Sub, (*big.Int).Sub},
		{api.Mul, (*big.Int).Mul},
		{api.Div, (*big.Int).Quo},
		{api.Rem, (*big.Int).Rem},
		{api.And, (*big.Int).And},
		{api.Or, (*big.Int).Or},
		{api.Xor, (*big.Int).Xor},
		{api.Shl, func(z, a, b *big.Int) *big.Int { return z.Lsh(a, lowSix(b)) }},
		{api.Shr, func(z, a, b *big.Int) *big.Int { return z.Rsh(a, lowSix(b)) }},
	}
	for _, c := range plain {
		eachPair(func(a, b int64) {
			if b == 0 && (c.op == api.Div || c.op == api.Rem) {
				return
			}
			want := lowest(c.reckon(new(big.Int), big.NewInt(a), big.NewInt(b)))
			if got := made(t, c.op, a, b); got != want {
				t.Errorf("Bin(%d, %d, %d) = %d, want %d", c.op, a, b, got, want)
			}
		})
	}
}

// 1.2: Neg is 0 less a, cut; Flip turns each bit, so that a number and its Flip add up to -1.
func TestUnAsPlainNumbers(t *testing.T) {
	eachPair(func(a, _ int64) {
		if got, code := word.Un(api.Neg, a); got != lowest(new(big.Int).Neg(big.NewInt(a))) || code != 0 {
			t.Errorf("Neg of %d is %d, %d", a, got, code)
		}
		if got, code := word.Un(api.Flip, a); got != lowest(new(big.Int).Not(big.NewInt(a))) || code != 0 {
			t.Errorf("Flip of %d is %d, %d", a, got, code)
		}
		if got, code := word.Un(api.Bang, a); got != made(t, api.Eq, a, 0) || code != 0 {
			t.Errorf("Bang of %d is %d, %d", a, got, code)
		}
	})
}

// lowSix is the number that the lowest six bits of b are.
func lowSix(b *big.Int) uint {
	return uint(new(big.Int).And(b, big.NewInt(63)).Uint64())
}

// lowest is the number with a sign that the lowest 64 bits of n are.
func lowest(n *big.Int) int64 {
	mask := new(big.Int).SetUint64(math.MaxUint64)
	return int64(mask.And(mask, n).Uint64())
}
