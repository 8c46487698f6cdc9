package float_test

import (
	"fmt"
	"math"
	"math/big"
	"slices"
	"strings"
	"testing"

	"shoring/api"
	"shoring/float"
)

// The signatures are exact: another one doesn't compile here.
var (
	_ func(uint64) uint8                              = float.Class
	_ func(...uint64) bool                            = float.Below
	_ func(uint8, uint64, uint64) (uint64, api.Errno) = float.Calc
	_ func(uint64, uint64) int                        = float.Order
	_ func(uint64) string                             = float.Text
	_ func(string) (uint64, api.Errno)                = float.Read
	_ func(...uint64) uint64                          = float.Sum
)

// Bits whose names are shorter than their digits.
const (
	minus    uint64 = 0x8000000000000000
	inf      uint64 = 0x7FF0000000000000
	least    uint64 = 0x0000000000000001
	small    uint64 = 0x000FFFFFFFFFFFFF
	plain    uint64 = 0x0010000000000000
	one      uint64 = 0x3FF0000000000000
	two      uint64 = 0x4000000000000000
	greatest uint64 = 0x7FEFFFFFFFFFFFFF
	all      uint64 = 0xFFFFFFFFFFFFFFFF
)

// of are the bits of a float.
func of(x float64) uint64 { return math.Float64bits(x) }

// aloft are bits without the sign, in the document's order: zero, small ones, plain ones, infinity, NaNs.
func aloft() []uint64 {
	return []uint64{
		0, least, 2, 3, 1 << 51, small - 1, small,
		plain, plain + 1, 2 * plain, of(1e-300), of(1e-160), of(0.1), of(0.25), of(0.5), one - 1, one, one + 1, of(1.5),
		two, of(2.25), of(3), of(10), of(1 << 52), of(1<<53 - 1), of(1 << 53), of(1e154), of(1e300), greatest - 1, greatest,
		inf, inf + 1, inf + 5, 0x7FF7FFFFFFFFFFFF, 0x7FF8000000000000, api.NaN, api.NaN + 1, all >> 1,
	}
}

// rising are bits of all classes and both signs, in the document's order.
func rising() []uint64 {
	up := aloft()
	slices.Sort(up)
	up = slices.Compact(up)
	l := make([]uint64, 0, 2*len(up))
	for i := len(up) - 1; i >= 0; i-- {
		l = append(l, minus|up[i])
	}
	return append(l, up...)
}

// mixed are bits that a fixed rule makes, of all exponents.
func mixed() []uint64 {
	var l []uint64
	b := uint64(1)
	for range 400 {
		b = b*6364136223846793005 + 1442695040888963407
		l = append(l, b, b&^(2047<<52), b|2047<<52)
	}
	return l
}

// name tells bits for a test's remark.
func name(l ...uint64) string { return fmt.Sprintf("%016x", l) }

func isNaN(b uint64) bool { return b&^minus > inf }

func TestClassTable(t *testing.T) {
	for _, c := range []struct {
		b    uint64
		want uint8
	}{
		{0, 3}, {least, 4}, {small, 4}, {1 << 51, 4}, {plain, 5}, {one, 5}, {two, 5}, {of(0.1), 5}, {greatest, 5},
		{inf, 2}, {inf | 1, 1}, {inf | 1<<51, 1}, {api.NaN, 1}, {0x7FF8000000000000, 1}, {all >> 1, 1},
	} {
		for _, sign := range []uint64{0, minus} {
			if got := float.Class(c.b | sign); got != c.want {
				t.Errorf("P2.1: Class of %s is %d, not %d", name(c.b|sign), got, c.want)
			}
		}
	}
}

// TestClassOfEveryExponent goes through all exponents, with fractions of one bit each.
func TestClassOfEveryExponent(t *testing.T) {
	for e := range uint64(2048) {
		for _, f := range []uint64{0, 1, 1 << 20, 1 << 51, 1<<52 - 1} {
			want := api.FloatPlain
			switch {
			case e == 2047 && f == 0:
				want = api.FloatInf
			case e == 2047:
				want = api.FloatNaN
			case e == 0 && f == 0:
				want = api.FloatZero
			case e == 0:
				want = api.FloatSmall
			}
			for _, sign := range []uint64{0, minus} {
				if got := float.Class(sign | e<<52 | f); got != want {
					t.Errorf("P2.1: Class of %s is %d, not %d", name(sign|e<<52|f), got, want)
				}
			}
		}
	}
}

func TestBelow(t *testing.T) {
	for _, c := range []struct {
		l    []uint64
		want bool
	}{
		{nil, true}, {[]uint64{}, true}, {[]uint64{minus}, true}, {[]uint64{all}, true}, {[]uint64{minus | inf}, true},
		{[]uint64{of(-1)}, true}, {[]uint64{minus, of(-1), minus | api.NaN}, true},
		{[]uint64{0}, false}, {[]uint64{one}, false}, {[]uint64{api.NaN}, false}, {[]uint64{inf}, false}, {[]uint64{minus - 1}, false},
		{[]uint64{minus, 0}, false}, {[]uint64{0, minus}, false}, {[]uint64{minus, 0, minus}, false}, {[]uint64{minus, minus, least}, false},
	} {
		if got := float.Below(c.l...); got != c.want {
			t.Errorf("P2.1: Below of %s is %v", name(c.l...), got)
		}
	}
}

func TestCalcTable(t *testing.T) {
	for _, c := range []struct {
		op         uint8
		a, b, want uint64
	}{
		{1, of(1.5), of(2.25), of(3.75)}, {1, inf, inf | minus, api.NaN}, {1, inf, inf, inf}, {1, minus, minus, minus}, {1, minus, 0, 0}, {1, one, of(-1), 0},
		{1, greatest, greatest, inf}, {1, least, least, 2}, {1, small, least, plain}, {1, of(1 << 53), one, of(1 << 53)}, {1, greatest, one, greatest},
		{2, two, two, 0}, {2, minus, 0, minus}, {2, 0, minus, 0}, {2, 0, 0, 0}, {2, inf, inf, api.NaN}, {2, plain, least, small}, {2, one, of(3), of(-2)},
		{3, 0, inf, api.NaN}, {3, minus, of(3), minus}, {3, of(-3), minus, 0}, {3, greatest, two, inf}, {3, least, of(0.5), 0}, {3, 3, of(0.5), 2}, {3, inf, of(-1), minus | inf},
		{4, one, minus, minus | inf}, {4, 0, minus, api.NaN}, {4, 0, 0, api.NaN}, {4, inf, inf, api.NaN}, {4, of(3), inf | minus, minus}, {4, one, of(3), 0x3FD5555555555555}, {4, inf, 0, inf}, {4, least, two, 0},
		{5, minus, 0, 0}, {5, 0, minus, 0}, {5, inf | minus, of(-1), one}, {5, of(-1), of(-2), 0}, {5, one, two, one}, {5, one, one, 0}, {5, least, 2, one}, {5, greatest, inf, one},
		{6, minus, 0, one}, {6, inf, inf, one}, {6, one, one, one}, {6, one, one + 1, 0}, {6, inf, inf | minus, 0}, {6, least, 2, 0},
		{7, 0, minus, minus}, {7, minus, 0, minus}, {7, 0, 0, 0}, {7, two, of(-7), of(-7)}, {7, inf | minus, of(-7), inf | minus}, {7, inf, greatest, greatest},
		{8, 0, minus, 0}, {8, minus, 0, 0}, {8, minus, minus, minus}, {8, of(3), of(-7), of(3)}, {8, inf | minus, of(-7), of(-7)}, {8, inf, greatest, inf},
		{9, 0, one, minus}, {9, minus, one, 0}, {9, one, 0, of(-1)}, {9, of(-2.5), 0, of(2.5)}, {9, inf, 0, minus | inf}, {9, least, 0, minus | least}, {9, minus | greatest, 0, greatest},
		{10, of(2.25), 0, of(1.5)}, {10, minus, 0, minus}, {10, 0, 0, 0}, {10, of(-1), 0, api.NaN}, {10, minus | least, 0, api.NaN}, {10, minus | inf, 0, api.NaN}, {10, inf, 0, inf}, {10, two, 0, 0x3FF6A09E667F3BCD}, {10, least, 0, 0x1E60000000000000},
	} {
		if got, e := float.Calc(c.op, c.a, c.b); got != c.want || e != api.OK {
			t.Errorf("P2.1: Calc by %d of %s is %s with %v, not %s", c.op, name(c.a, c.b), name(got), e, name(c.want))
		}
	}
}

// TestNaNsAreOne tells that whichever NaN is handed in the same one is answered, and none of two comparisons holds.
func TestNaNsAreOne(t *testing.T) {
	var nans []uint64
	for _, b := range append(rising(), mixed()...) {
		if isNaN(b) {
			nans = append(nans, b)
		}
	}
	others := append(rising(), nans...)
	for op := api.OpAdd; op <= api.OpMax; op++ {
		want := api.NaN
		if op == api.OpLess || op == api.OpSame {
			want = 0
		}
		for i, nan := range nans {
			other := others[i%len(others)]
			for _, pair := range [][2]uint64{{nan, other}, {other, nan}, {nan, nan}} {
				if got, e := float.Calc(op, pair[0], pair[1]); got != want || e != api.OK {
					t.Errorf("P2.1: Calc by %d of %s is %s with %v, not %s", op, name(pair[0], pair[1]), name(got), e, name(want))
				}
			}
		}
	}
	for _, nan := range nans {
		for _, op := range []uint8{api.OpNeg, api.OpRoot} {
			if got, e := float.Calc(op, nan, one); got != api.NaN || e != api.OK {
				t.Errorf("P2.1: Calc by %d of %s is %s with %v", op, name(nan), name(got), e)
			}
		}
	}
}

// rounded is an exact number as the next float; a sign for a number that comes to 0 isn't asked.
func rounded(x *big.Rat) uint64 {
	f, _ := x.Float64()
	return of(f)
}

// exact is what two numbers come to without rounding.
func exact(op uint8, a, b *big.Rat) *big.Rat {
	switch op {
	case api.OpAdd:
		return new(big.Rat).Add(a, b)
	case api.OpSub:
		return new(big.Rat).Sub(a, b)
	case api.OpMul:
		return new(big.Rat).Mul(a, b)
	}
	return new(big.Rat).Quo(a, b)
}

// numbers are bits of all kinds that are finite.
func numbers() []uint64 {
	var l []uint64
	for _, b := range append(rising(), mixed()[:150]...) {
		if b&inf != inf {
			l = append(l, b)
		}
	}
	return l
}

// TestCalcIsRoundedOnce holds the four operations against exact fractions.
func TestCalcIsRoundedOnce(t *testing.T) {
	l := numbers()
	for i, a := range l {
		for _, b := range l[i%3 : min(len(l), 60)] {
			x, y := new(big.Rat).SetFloat64(math.Float64frombits(a)), new(big.Rat).SetFloat64(math.Float64frombits(b))
			for op := api.OpAdd; op <= api.OpDiv; op++ {
				if op == api.OpDiv && y.Sign() == 0 {
					continue
				}
				z := exact(op, x, y)
				want := rounded(z)
				got, e := float.Calc(op, a, b)
				if z.Sign() == 0 {
					got &^= minus
				}
				if got != want || e != api.OK {
					t.Fatalf("P2.1: Calc by %d of %s is %s with %v, not %s", op, name(a, b), name(got), e, name(want))
				}
			}
		}
	}
}

// TestCompared holds what compares and chooses against the order, in which only zeros differ from Go's.
func TestCompared(t *testing.T) {
	l := slices.DeleteFunc(rising(), isNaN)
	for i, a := range l {
		for k, b := range l {
			zeros := a&^minus == 0 && b&^minus == 0
			want := map[uint8]uint64{api.OpLess: 0, api.OpSame: 0, api.OpMin: l[min(i, k)], api.OpMax: l[max(i, k)]}
			if i < k && !zeros {
				want[api.OpLess] = one
			}
			if i == k || zeros {
				want[api.OpSame] = one
			}
			for op, w := range want {
				if got, e := float.Calc(op, a, b); got != w || e != api.OK {
					t.Errorf("P2.1: Calc by %d of %s is %s with %v, not %s", op, name(a, b), name(got), e, name(w))
				}
			}
		}
	}
}

func TestNegTurnsTheSignAlone(t *testing.T) {
	for _, a := range append(rising(), mixed()...) {
		want := a ^ minus
		if isNaN(a) {
			want = api.NaN
		}
		for _, b := range []uint64{0, one, inf | 1, all} {
			if got, e := float.Calc(api.OpNeg, a, b); got != want || e != api.OK {
				t.Errorf("P2.1: Calc by 9 of %s is %s with %v", name(a, b), name(got), e)
			}
		}
	}
}

// TestRootIsTheNextFloat asks whether the number lies between the squares of the root's neighbours' middles.
func TestRootIsTheNextFloat(t *testing.T) {
	for _, a := range append(numbers(), mixed()...) {
		a &^= minus
		if a == 0 || a >= inf {
			continue
		}
		got, e := float.Calc(api.OpRoot, a, inf|1)
		if e != api.OK || got == 0 || got >= inf {
			t.Fatalf("P2.1: Calc by 10 of %s is %s with %v", name(a), name(got), e)
		}
		x := new(big.Rat).SetFloat64(math.Float64frombits(a))
		root := new(big.Rat).SetFloat64(math.Float64frombits(got))
		for _, way := range []int{-1, 1} {
			next := new(big.Rat).SetFloat64(math.Float64frombits(got + uint64(way)))
			middle := next.Quo(next.Add(next, root), big.NewRat(2, 1))
			if x.Cmp(middle.Mul(middle, middle))*way > 0 {
				t.Errorf("P2.1: Calc by 10 of %s is %s: another float is nearer", name(a), name(got))
			}
		}
	}
}

func TestCalcOfNoOperation(t *testing.T) {
	for op := range 256 {
		if op >= 1 && op <= 10 {
			continue
		}
		for _, a := range []uint64{0, one, inf, api.NaN, all} {
			if got, e := float.Calc(uint8(op), a, one); got != 0 || e != api.ErrArg {
				t.Errorf("P2.1: Calc by %d of %s is %s with %v", op, name(a), name(got), e)
			}
		}
	}
}

func TestOrderIsTheDocuments(t *testing.T) {
	l := rising()
	for i, a := range l {
		for k, b := range l {
			want := 0
			if i < k {
				want = -1
			}
			if i > k {
				want = 1
			}
			if got := float.Order(a, b); got != want {
				t.Errorf("P2.1: Order of %s is %d, not %d", name(a, b), got, want)
			}
		}
	}
}

// slowOrder says it by the document's words.
func slowOrder(a, b uint64) int {
	switch {
	case a == b:
		return 0
	case a>>63 != b>>63:
		return int(b>>63)*2 - 1
	case a<<1 < b<<1 == (a>>63 == 0):
		return -1
	}
	return 1
}

func TestOrderIsOne(t *testing.T) {
	l := append(rising(), mixed()[:60]...)
	for _, a := range l {
		for _, b := range l {
			o := float.Order(a, b)
			if o != slowOrder(a, b) {
				t.Errorf("P2.1: Order of %s is %d", name(a, b), o)
			}
			if (o == 0) != (a == b) {
				t.Errorf("P2.2: Order of %s is %d", name(a, b), o)
			}
			if o != -float.Order(b, a) {
				t.Errorf("P2.2: Order of %s and back isn't turned", name(a, b))
			}
			for _, c := range l {
				if o < 0 && float.Order(b, c) < 0 && float.Order(a, c) >= 0 {
					t.Errorf("P2.2: of %s each is ahead of the next one, but not the first one of the last one", name(a, b, c))
				}
			}
		}
	}
}

func TestTextTable(t *testing.T) {
	for _, c := range []struct {
		b    uint64
		want string
	}{
		{0, "0000000000000000"}, {1, "0000000000000001"}, {minus, "8000000000000000"}, {one, "3ff0000000000000"}, {of(-0.5), "bfe0000000000000"},
		{api.NaN, "7ff8000000000001"}, {all, "ffffffffffffffff"}, {0x0123456789ABCDEF, "0123456789abcdef"}, {0xFEDCBA9876543210, "fedcba9876543210"}, {0x00A0000000000B00, "00a0000000000b00"},
	} {
		if got := float.Text(c.b); got != c.want {
			t.Errorf("P2.1: Text of %d is %q, not %q", c.b, got, c.want)
		}
		if got, e := float.Read(c.want); got != c.b || e != api.OK {
			t.Errorf("P2.1: Read of %q is %d with %v", c.want, got, e)
		}
	}
}

func TestThereAndBack(t *testing.T) {
	l := append(rising(), mixed()...)
	for i := range 64 {
		l = append(l, 1<<i, all<<i, all>>i)
	}
	for _, b := range l {
		s := float.Text(b)
		if len(s) != 16 || strings.Trim(s, "0123456789abcdef") != "" {
			t.Errorf("P2.1: Text of %s is %q", name(b), s)
		}
		got, e := float.Read(s)
		if got != b || e != api.OK {
			t.Errorf("P2.3: Read of %q is %s with %v", s, name(got), e)
		}
		if again := float.Text(got); again != s {
			t.Errorf("P2.3: Text of what Read answered of %q is %q", s, again)
		}
	}
}

func TestReadRefuses(t *testing.T) {
	good := "0123456789abcdef"
	l := []string{
		"", "0", "f", good[1:], good + "0", "0" + good, good + good, "BFE0000000000000", "bfe000000000000A",
		"0x00000000000000", "+000000000000001", "-000000000000001", "0000_0000_0000_0", " 00000000000001 ", "000000000000000\n",
		"00000000 00000000", "1e10000000000000.", "1.00000000000000", "0000000000000é", "0000000\u06600000000", "１２３４５", "nan", "\xff\xfe",
		strings.Repeat("\x00", 16), strings.Repeat("g", 16), strings.Repeat("\xff", 16), strings.Repeat("0", 1000),
	}
	for _, s := range l {
		if got, e := float.Read(s); got != 0 || e != api.ErrForm {
			t.Errorf("P2.1: Read of %q is %s with %v", s, name(got), e)
		}
	}
}

// TestReadOfEveryByte puts every byte at every place.
func TestReadOfEveryByte(t *testing.T) {
	for i := range 16 {
		for c := range 256 {
			s := []byte("1000000000000001")
			s[i] = byte(c)
			value := strings.IndexByte("0123456789abcdef", byte(c))
			got, e := float.Read(string(s))
			if value < 0 {
				if got != 0 || e != api.ErrForm {
					t.Errorf("P2.1: Read of %q is %s with %v", s, name(got), e)
				}
			} else if e != api.OK || got>>(60-4*i)&15 != uint64(value) {
				t.Errorf("P2.1: Read of %q is %s with %v", s, name(got), e)
			}
		}
	}
}

func TestSumTable(t *testing.T) {
	for _, c := range []struct {
		l    []uint64
		want uint64
	}{
		{nil, 0}, {[]uint64{}, 0}, {[]uint64{0}, 0}, {[]uint64{minus}, 0}, {[]uint64{minus, minus}, 0}, {[]uint64{of(2.5)}, of(2.5)}, {[]uint64{of(-2.5)}, of(-2.5)},
		{[]uint64{one, two, of(4)}, of(7)}, {[]uint64{one, of(-1)}, 0}, {[]uint64{of(-1), one}, 0}, {[]uint64{least, least, least}, 3},
		{[]uint64{of(1 << 53), one, one}, of(1 << 53)}, {[]uint64{one, one, of(1 << 53)}, of(1<<53 + 2)}, {[]uint64{of(1 << 53), of(-(1 << 53)), one}, one}, {[]uint64{one, of(1 << 53), of(-(1 << 53))}, 0},
		{[]uint64{greatest, greatest, minus | greatest}, inf}, {[]uint64{greatest, minus | greatest, greatest}, greatest},
		{[]uint64{inf}, inf}, {[]uint64{inf, one}, inf}, {[]uint64{inf, inf | minus}, api.NaN}, {[]uint64{inf, inf | minus, one}, api.NaN},
		{[]uint64{inf | 1}, api.NaN}, {[]uint64{all}, api.NaN}, {[]uint64{one, 0x7FF8000000000000, two}, api.NaN}, {[]uint64{all, inf, minus}, api.NaN}, {[]uint64{one, two, inf | 5}, api.NaN},
	} {
		if got := float.Sum(c.l...); got != c.want {
			t.Errorf("P2.1: Sum of %s is %s, not %s", name(c.l...), name(got), name(c.want))
		}
	}
}

// TestSumIsAddedOneToTheOther holds it against as many calculations.
func TestSumIsAddedOneToTheOther(t *testing.T) {
	l := append(numbers(), mixed()...)
	for from := 0; from < len(l); from += 5 {
		some := l[from:min(len(l), from+12)]
		want := uint64(0)
		for i, b := range some {
			if got := float.Sum(some[:i]...); got != want {
				t.Errorf("P2.1: Sum of %s is %s, not %s", name(some[:i]...), name(got), name(want))
			}
			want, _ = float.Calc(api.OpAdd, want, b)
		}
	}
}

// TestNothingPanics hands in all kinds beside all kinds: a panic ends the test.
func TestNothingPanics(t *testing.T) {
	l := rising()
	for op := range 256 {
		for _, a := range l {
			for _, b := range l {
				float.Calc(uint8(op), a, b)
			}
		}
	}
	for n := range 40 {
		float.Read(strings.Repeat("\xf0", n))
		float.Read(strings.Repeat("é", n))
	}
}

func TestListsAreLeft(t *testing.T) {
	room := []uint64{minus, inf | 1, api.NaN, one, all}
	kept := slices.Clone(room)
	float.Below(room[:3]...)
	float.Sum(room[:3]...)
	if !slices.Equal(room, kept) {
		t.Errorf("P0.4: Below and Sum made %s of %s", name(room...), name(kept...))
	}
}

// TestSameAnswerAgain asks twice, with other calls in between: nothing is kept.
func TestSameAnswerAgain(t *testing.T) {
	ask := func() []string {
		var l []string
		for _, a := range rising() {
			for op := range uint8(12) {
				x, e := float.Calc(op, a, two)
				l = append(l, fmt.Sprint(float.Text(x), e, float.Class(x), float.Order(x, a), float.Below(x, a), float.Sum(x, a)))
			}
		}
		return l
	}
	if !slices.Equal(ask(), ask()) {
		t.Error("P0.6: the same calls answer otherwise the second time")
	}
}
