package bitmap_test

import (
	"math"
	"slices"
	"strings"
	"testing"

	"shoring/api"
	"shoring/bitmap"
)

// The signatures are exact: another one doesn't compile here.
var (
	_ func(...int) []uint64              = bitmap.Of
	_ func([]uint64, ...int) bool        = bitmap.Has
	_ func([]uint64, int) int            = bitmap.Count
	_ func(a, b []uint64) bool           = bitmap.Same
	_ func([]uint64, int, bool) []uint64 = bitmap.With
	_ func([]uint64, int) []int          = bitmap.Bits
	_ func([]uint64, int) string         = bitmap.Text
	_ func(string) ([]uint64, api.Errno) = bitmap.Read
)

// all is a word of which each bit is 1.
const all uint64 = math.MaxUint64

// bitmaps are empty ones, ones of ordinary bits, ones with words 0 between and at the end, and ones above MaxBits bits.
func bitmaps() [][]uint64 {
	return [][]uint64{
		nil, {}, {0}, {0, 0, 0}, {1}, {1, 0}, {2}, {10}, {1 << 63}, {all}, {all, all}, {all - 1, 0, 0},
		{0, 1}, {0, 1 << 63, 0}, {1 << 63, 1}, {all, 0, 5, 0}, {0xDEADBEEF, 0x123456789ABCDEF0, 7},
		long(63), long(64), append(long(64), 0, 0), long(65), long(70), append(make([]uint64, 64), 3), append(make([]uint64, 66), 0),
		slices.Repeat([]uint64{all}, 66),
	}
}

// long is a bitmap of as many words, that a fixed rule makes.
func long(words int) []uint64 {
	var l []uint64
	w := uint64(words)
	for range words {
		w = w*6364136223846793005 + 1442695040888963407
		l = append(l, w|1)
	}
	return l
}

// numbers are those around the ends of words, around MaxBits, and both ends of an int.
func numbers() []int {
	l := []int{math.MinInt, math.MinInt + 1, math.MinInt + 63, math.MinInt + 64, -4096, -65, -64, -63}
	for _, n := range []int{0, 64, 128, 192, 4032, 4096, 4160, 4224, 5000, 1 << 31, 1 << 32, 1 << 62} {
		for d := -2; d <= 2; d++ {
			l = append(l, n+d)
		}
	}
	return append(l, 5, 33, 100, math.MaxInt-64, math.MaxInt-63, math.MaxInt-1, math.MaxInt)
}

// slow are a bitmap's bits one by one: each word is halved, from the lowest bit on.
func slow(b []uint64) []bool {
	var l []bool
	for _, w := range b {
		for range 64 {
			l = append(l, w%2 == 1)
			w /= 2
		}
	}
	return l
}

// is tells a bit of those that slow answers; those that no word has are 0.
func is(l []bool, i int) bool { return i >= 0 && i < len(l) && l[i] }

// ones are which of the first n are set, rising.
func ones(l []bool, n int) []int {
	var o []int
	for i, on := range l {
		if on && i < n {
			o = append(o, i)
		}
	}
	return o
}

// tight tells whether a bitmap has no word 0 at its end.
func tight(b []uint64) bool { return len(b) == 0 || b[len(b)-1] != 0 }

func TestOfTable(t *testing.T) {
	for _, c := range []struct {
		l    []int
		want []uint64
	}{
		{nil, nil}, {[]int{}, nil}, {[]int{0}, []uint64{1}}, {[]int{1, 3}, []uint64{10}}, {[]int{3, 1}, []uint64{10}},
		{[]int{63}, []uint64{1 << 63}}, {[]int{64}, []uint64{0, 1}}, {[]int{127}, []uint64{0, 1 << 63}}, {[]int{128, 0}, []uint64{1, 0, 1}},
		{[]int{5, 5, 5}, []uint64{32}}, {[]int{5, 5}, []uint64{32}}, {[]int{-1}, nil}, {[]int{-64}, nil}, {[]int{-1, 0}, []uint64{1}},
		{[]int{0, -1}, []uint64{1}}, {[]int{4096}, nil}, {[]int{4097, 2}, []uint64{4}}, {[]int{2, 4096}, []uint64{4}},
		{[]int{math.MinInt, math.MaxInt}, nil}, {[]int{math.MinInt, 6, math.MaxInt, 64}, []uint64{64, 1}},
		{[]int{4095}, append(make([]uint64, 63), 1<<63)}, {[]int{4032}, append(make([]uint64, 63), 1)},
	} {
		if got := bitmap.Of(c.l...); !slices.Equal(got, c.want) {
			t.Errorf("P3.1: Of(%v) = %x, not %x", c.l, got, c.want)
		}
	}
}

func TestOfEachBit(t *testing.T) {
	for i := -130; i <= 4300; i++ {
		b := bitmap.Of(i)
		want := []int{i}
		if i < 0 || i >= 4096 {
			want = nil
		}
		if got := ones(slow(b), math.MaxInt); !slices.Equal(got, want) || !tight(b) {
			t.Errorf("P3.1: Of(%d) has the bits %v, not %v, in %d words", i, got, want, len(b))
		}
	}
}

func TestOfAllBits(t *testing.T) {
	var l []int
	for i := 4200; i >= -10; i-- {
		l = append(l, i)
	}
	if b := bitmap.Of(l...); !slices.Equal(b, slices.Repeat([]uint64{all}, 64)) {
		t.Errorf("P3.1: Of of all bits = %x", b)
	}
}

func TestHasTable(t *testing.T) {
	for _, c := range []struct {
		b    []uint64
		l    []int
		want bool
	}{
		{nil, nil, true}, {nil, []int{}, true}, {[]uint64{0}, nil, true}, {[]uint64{}, []int{0}, false}, {nil, []int{0}, false},
		{[]uint64{10}, []int{1}, true}, {[]uint64{10}, []int{1, 3}, true}, {[]uint64{10}, []int{3, 1, 1}, true}, {[]uint64{10}, []int{0}, false},
		{[]uint64{10}, []int{1, 2, 3}, false}, {[]uint64{10}, []int{2, 1}, false}, {[]uint64{10}, []int{1, 3, 4}, false},
		{[]uint64{all}, []int{-1}, false}, {[]uint64{all}, []int{-64}, false}, {[]uint64{all}, []int{0, -1}, false}, {[]uint64{all}, []int{-63, 0}, false},
		{[]uint64{all}, []int{63}, true}, {[]uint64{all}, []int{64}, false}, {[]uint64{all, 1}, []int{64}, true}, {[]uint64{all}, []int{0, 64}, false},
		{[]uint64{all}, []int{math.MinInt}, false}, {[]uint64{all}, []int{math.MaxInt}, false},
		{slices.Repeat([]uint64{all}, 66), []int{4096, 4223}, true}, {slices.Repeat([]uint64{all}, 66), []int{4224}, false},
	} {
		if got := bitmap.Has(c.b, c.l...); got != c.want {
			t.Errorf("P3.1: Has(%x, %v) = %v", c.b, c.l, got)
		}
	}
}

func TestHasEachBit(t *testing.T) {
	for _, b := range bitmaps() {
		bits := slow(b)
		for _, i := range append(numbers(), ones(bits, math.MaxInt)...) {
			if got := bitmap.Has(b, i); got != is(bits, i) {
				t.Errorf("P3.1: Has(%x, %d) = %v", b, i, got)
			}
		}
		if l := ones(bits, math.MaxInt); !bitmap.Has(b, l...) {
			t.Errorf("P3.1: Has(%x) of all its bits: false", b)
		} else if bitmap.Has(b, append(l, 64*len(b))...) {
			t.Errorf("P3.1: Has(%x) of all its bits and one more: true", b)
		}
	}
}

func TestCountAndBits(t *testing.T) {
	for _, b := range bitmaps() {
		bits := slow(b)
		for _, n := range numbers() {
			want := ones(bits, n)
			if got := bitmap.Count(b, n); got != len(want) {
				t.Errorf("P3.1: Count(%x, %d) = %d, not %d", b, n, got, len(want))
			}
			if got := bitmap.Bits(b, n); !slices.Equal(got, want) {
				t.Errorf("P3.1: Bits(%x, %d) = %v, not %v", b, n, got, want)
			}
		}
	}
}

func TestCountOfEachNumber(t *testing.T) {
	b := []uint64{0xDEADBEEF12345679, 0, 0x8000000000000001, 0, 0}
	want := 0
	for n := range 400 {
		if got := bitmap.Count(b, n); got != want {
			t.Errorf("P3.1: Count(%x, %d) = %d, not %d", b, n, got, want)
		}
		if got := len(bitmap.Bits(b, n)); got != want {
			t.Errorf("P3.1: Bits(%x, %d) are %d, not %d", b, n, got, want)
		}
		if is(slow(b), n) {
			want++
		}
	}
}

func TestBitsTable(t *testing.T) {
	for _, c := range []struct {
		b    []uint64
		n    int
		want []int
	}{
		{nil, 10, nil}, {[]uint64{10}, 10, []int{1, 3}}, {[]uint64{10}, 3, []int{1}}, {[]uint64{10}, 4, []int{1, 3}}, {[]uint64{10}, 1, nil},
		{[]uint64{10}, 0, nil}, {[]uint64{10}, -1, nil}, {[]uint64{1 << 63, 1}, 64, []int{63}}, {[]uint64{1 << 63, 1}, 65, []int{63, 64}},
		{append(make([]uint64, 64), 3), math.MaxInt, []int{4096, 4097}}, {append(make([]uint64, 64), 3), 4097, []int{4096}},
	} {
		if got := bitmap.Bits(c.b, c.n); !slices.Equal(got, c.want) {
			t.Errorf("P3.1: Bits(%x, %d) = %v, not %v", c.b, c.n, got, c.want)
		}
		if got := bitmap.Count(c.b, c.n); got != len(c.want) {
			t.Errorf("P3.1: Count(%x, %d) = %d, not %d", c.b, c.n, got, len(c.want))
		}
	}
}

func TestSameTable(t *testing.T) {
	for _, c := range []struct {
		a, b []uint64
		want bool
	}{
		{nil, nil, true}, {nil, []uint64{}, true}, {nil, []uint64{0, 0}, true}, {[]uint64{0}, []uint64{0, 0}, true}, {nil, []uint64{1}, false},
		{[]uint64{5}, []uint64{5, 0, 0}, true}, {[]uint64{5}, []uint64{5, 0, 1}, false}, {[]uint64{5}, []uint64{4}, false},
		{[]uint64{0, 5}, []uint64{5}, false}, {[]uint64{0, 5}, []uint64{0, 5, 0}, true}, {[]uint64{5, 0, 6}, []uint64{5, 6}, false},
		{append(make([]uint64, 64), 1), nil, false}, {make([]uint64, 80), nil, true},
	} {
		if got := bitmap.Same(c.a, c.b); got != c.want {
			t.Errorf("P3.1: Same(%x, %x) = %v", c.a, c.b, got)
		}
		if got := bitmap.Same(c.b, c.a); got != c.want {
			t.Errorf("P3.1: Same(%x, %x) = %v", c.b, c.a, got)
		}
	}
}

func TestSameOfAll(t *testing.T) {
	for _, a := range bitmaps() {
		for _, b := range bitmaps() {
			want := slices.Equal(ones(slow(a), math.MaxInt), ones(slow(b), math.MaxInt))
			if got := bitmap.Same(a, b); got != want {
				t.Errorf("P3.1: Same(%x, %x) = %v", a, b, got)
			}
		}
	}
}

func TestWithTable(t *testing.T) {
	for _, c := range []struct {
		b    []uint64
		i    int
		on   bool
		want []uint64
	}{
		{nil, 0, true, []uint64{1}}, {nil, 0, false, nil}, {nil, 64, true, []uint64{0, 1}}, {nil, 64, false, nil},
		{[]uint64{10}, 0, true, []uint64{11}}, {[]uint64{10}, 1, true, []uint64{10}}, {[]uint64{10}, 1, false, []uint64{8}}, {[]uint64{10}, 0, false, []uint64{10}},
		{[]uint64{1}, 0, false, nil}, {[]uint64{0, 0, 1}, 128, false, nil}, {[]uint64{3, 0, 1}, 128, false, []uint64{3}},
		{[]uint64{3, 0, 0}, 0, true, []uint64{3}}, {[]uint64{3, 0, 0}, 5000, true, []uint64{3}}, {[]uint64{3, 0, 0}, 200, false, []uint64{3}},
		{[]uint64{3}, -1, true, []uint64{3}}, {[]uint64{3}, -1, false, []uint64{3}}, {[]uint64{3}, -64, false, []uint64{3}}, {[]uint64{0, 0}, -1, true, nil},
		{nil, 4096, true, nil}, {nil, 4095, true, append(make([]uint64, 63), 1<<63)}, {[]uint64{3}, 4096, true, []uint64{3}},
		{[]uint64{3}, math.MinInt, true, []uint64{3}}, {[]uint64{3}, math.MaxInt, true, []uint64{3}}, {[]uint64{3}, math.MinInt, false, []uint64{3}}, {[]uint64{3}, math.MaxInt, false, []uint64{3}},
		{append(make([]uint64, 64), 1), 4096, false, append(make([]uint64, 64), 1)}, {append(make([]uint64, 64), 1, 0), 4097, true, append(make([]uint64, 64), 1)},
		{append(make([]uint64, 64), 1), 0, true, append([]uint64{1}, append(make([]uint64, 63), 1)...)},
	} {
		if got := bitmap.With(c.b, c.i, c.on); !slices.Equal(got, c.want) {
			t.Errorf("P3.1: With(%x, %d, %v) = %x, not %x", c.b, c.i, c.on, got, c.want)
		}
	}
}

// TestWithAll asks each bit of what With answers.
func TestWithAll(t *testing.T) {
	for _, b := range bitmaps() {
		for _, i := range numbers() {
			for _, on := range []bool{false, true} {
				got := bitmap.With(b, i, on)
				want := slow(b)
				if i >= 0 && i < 4096 {
					want = append(want, make([]bool, max(0, i+1-len(want)))...)
					want[i] = on
				}
				if !slices.Equal(ones(slow(got), math.MaxInt), ones(want, math.MaxInt)) || !tight(got) {
					t.Errorf("P3.1: With(%x, %d, %v) = %x", b, i, on, got)
				}
			}
		}
	}
}

func TestTextTable(t *testing.T) {
	for _, c := range []struct {
		b    []uint64
		n    int
		want string
	}{
		{bitmap.Of(1, 3), 5, "01010"}, {[]uint64{10}, 5, "01010"}, {[]uint64{10}, 3, "010"}, {[]uint64{10}, 4, "0101"}, {[]uint64{10}, 1, "0"},
		{[]uint64{1}, 1, "1"}, {nil, 3, "000"}, {[]uint64{}, 1, "0"}, {nil, 0, ""}, {[]uint64{all}, 0, ""}, {[]uint64{all}, -1, ""}, {[]uint64{all}, math.MinInt, ""},
		{[]uint64{1 << 63, 1}, 66, strings.Repeat("0", 63) + "110"}, {[]uint64{all}, 70, strings.Repeat("1", 64) + "000000"},
		{slices.Repeat([]uint64{all}, 66), 4095, strings.Repeat("1", 4095)}, {slices.Repeat([]uint64{all}, 66), 4096, strings.Repeat("1", 4096)},
		{slices.Repeat([]uint64{all}, 66), 4097, strings.Repeat("1", 4096)}, {[]uint64{1}, math.MaxInt, "1" + strings.Repeat("0", 4095)},
	} {
		if got := bitmap.Text(c.b, c.n); got != c.want {
			t.Errorf("P3.1: Text(%x, %d) = %s, not %s", c.b, c.n, got, c.want)
		}
	}
}

func TestTextOfAll(t *testing.T) {
	for _, b := range bitmaps() {
		bits := slow(b)
		for _, n := range numbers() {
			s := bitmap.Text(b, n)
			if len(s) != min(max(n, 0), 4096) {
				t.Errorf("P3.1: Text(%x, %d) has %d digits", b, n, len(s))
			}
			for i, c := range []byte(s) {
				if c != '0' && c != '1' || (c == '1') != is(bits, i) {
					t.Errorf("P3.1: Text(%x, %d) has %q at %d", b, n, c, i)
				}
			}
		}
	}
}

func TestReadTable(t *testing.T) {
	for _, c := range []struct {
		s    string
		want []uint64
	}{
		{"", nil}, {"0", nil}, {"000", nil}, {"1", []uint64{1}}, {"01010", []uint64{10}}, {"0101", []uint64{10}}, {"11", []uint64{3}},
		{strings.Repeat("0", 64), nil}, {strings.Repeat("0", 64) + "1", []uint64{0, 1}}, {strings.Repeat("1", 64) + strings.Repeat("0", 200), []uint64{all}},
		{strings.Repeat("1", 4096), slices.Repeat([]uint64{all}, 64)}, {strings.Repeat("0", 4096), nil}, {strings.Repeat("0", 4095) + "1", append(make([]uint64, 63), 1<<63)},
	} {
		if got, e := bitmap.Read(c.s); e != api.OK || !slices.Equal(got, c.want) {
			t.Errorf("P3.1: Read(%s) = %x, %v, not %x", c.s, got, e, c.want)
		}
	}
}

func TestReadRefuses(t *testing.T) {
	noughts := strings.Repeat("0", 4095)
	for _, c := range []struct {
		s    string
		want api.Errno
	}{
		{"2", api.ErrForm}, {" ", api.ErrForm}, {"0 1", api.ErrForm}, {"01\n", api.ErrForm}, {"\t01", api.ErrForm}, {"0121", api.ErrForm}, {"-1", api.ErrForm}, {"0x1", api.ErrForm},
		{"1_1", api.ErrForm}, {"+1", api.ErrForm}, {"1.0", api.ErrForm}, {"\x00", api.ErrForm}, {"0\xff1", api.ErrForm}, {"١", api.ErrForm}, {"1１1", api.ErrForm}, {"O", api.ErrForm}, {"l", api.ErrForm},
		{noughts + "2", api.ErrForm}, {"2" + noughts, api.ErrForm}, {noughts + "00", api.ErrLong}, {noughts + "11", api.ErrLong}, {noughts + "0x", api.ErrLong}, {strings.Repeat("x", 4097), api.ErrLong},
		// 4095 letters of two bytes each: bytes are counted, not letters.
		{strings.Repeat("é", 4095), api.ErrLong}, {strings.Repeat("é", 2048), api.ErrForm}, {strings.Repeat("1", 1<<20), api.ErrLong},
	} {
		if got, e := bitmap.Read(c.s); e != c.want || len(got) != 0 {
			t.Errorf("P3.1, P0.2: Read(%.20q, %d bytes) = %x, %v, not %v", c.s, len(c.s), got, e, c.want)
		}
	}
}

func TestReadOfEveryByte(t *testing.T) {
	for c := range 256 {
		s := "10" + string([]byte{byte(c)}) + "01"
		want := api.ErrForm
		if c == '0' || c == '1' {
			want = api.OK
		}
		if _, e := bitmap.Read(s); e != want {
			t.Errorf("P3.1: Read(%q): %v, not %v", s, e, want)
		}
	}
}

func TestThereAndBack(t *testing.T) {
	for _, b := range bitmaps() {
		for _, n := range numbers() {
			want := bitmap.Of(ones(slow(b), min(n, 4096))...)
			if got, e := bitmap.Read(bitmap.Text(b, n)); e != api.OK || !slices.Equal(got, want) || !tight(got) {
				t.Errorf("P3.1: Read of Text(%x, %d) = %x, %v, not %x", b, n, got, e, want)
			}
		}
	}
}

// TestNothingPanics hands in every bitmap with every number: a panic ends the test.
func TestNothingPanics(t *testing.T) {
	for _, b := range bitmaps() {
		for _, n := range numbers() {
			bitmap.Of(n, n)
			bitmap.Has(b, n, n)
			bitmap.With(b, n, true)
			bitmap.With(b, n, false)
			bitmap.Text(b, n)
			if c := bitmap.Count(b, n); c < 0 || c > 64*len(b) || c != len(bitmap.Bits(b, n)) {
				t.Errorf("P0.1: Count(%x, %d) = %d", b, n, c)
			}
		}
	}
}

// TestArgumentsAreLeft hands in lists with room behind them: neither they nor the room are changed.
func TestArgumentsAreLeft(t *testing.T) {
	room := []uint64{all, 0, 5, 0, 77, 78, 79}
	l := []int{200, 1, -1, 64, 77, 78}
	keptRoom, keptL := slices.Clone(room), slices.Clone(l)
	for words := range len(room) + 1 {
		b := room[:words]
		bitmap.Of(l[:4]...)
		bitmap.Has(b, l[:4]...)
		bitmap.Same(b, room[:2])
		bitmap.Same(room[:2], b)
		for _, n := range append(numbers(), 300, 64*words-1, 64*words, 64*words+1) {
			bitmap.Count(b, n)
			bitmap.Bits(b, n)
			bitmap.Text(b, n)
			bitmap.With(b, n, true)
			bitmap.With(b, n, false)
		}
		if !slices.Equal(room, keptRoom) || !slices.Equal(l, keptL) {
			t.Fatalf("P0.4: the calls made %x and %v of %x and %v", room, l, keptRoom, keptL)
		}
	}
}

// TestAnswersAreNew writes into all that is answered, up to the end of its room.
func TestAnswersAreNew(t *testing.T) {
	b := []uint64{all, 0, 5, 0}
	kept := slices.Clone(b)
	spoil := func(a []uint64) {
		a = a[:cap(a)]
		for i := range a {
			a[i] = 99
		}
	}
	for range 2 {
		for _, i := range []int{-1, 0, 63, 64, 128, 129, 200, 4095, 4096} {
			spoil(bitmap.With(b, i, true))
			spoil(bitmap.With(b, i, false))
		}
		spoil(bitmap.Of(1, 100))
		a, _ := bitmap.Read("0101")
		spoil(a)
		l := bitmap.Bits(b, 300)
		l[0] = 99
		if !slices.Equal(b, kept) {
			t.Fatalf("P0.4: writing into an answer made %x of %x", b, kept)
		}
	}
	if a, _ := bitmap.Read("0101"); !slices.Equal(a, []uint64{10}) || !slices.Equal(bitmap.Of(1, 3), a) || bitmap.Bits(b, 300)[0] != 0 {
		t.Error("P0.4: writing into an answer changes the next one")
	}
}

// TestNilIsEmpty holds what is answered of nil against what is answered of an empty list.
func TestNilIsEmpty(t *testing.T) {
	none := []uint64{}
	for _, n := range numbers() {
		if bitmap.Has(nil, n) != bitmap.Has(none, n) || bitmap.Count(nil, n) != bitmap.Count(none, n) || bitmap.Text(nil, n) != bitmap.Text(none, n) {
			t.Errorf("P0.5: Has, Count or Text of nil and of an empty bitmap differ at %d", n)
		}
		if !slices.Equal(bitmap.With(nil, n, true), bitmap.With(none, n, true)) || len(bitmap.Bits(nil, n)) != 0 || len(bitmap.Bits(none, n)) != 0 {
			t.Errorf("P0.5: With or Bits of nil and of an empty bitmap differ at %d", n)
		}
	}
}

// TestSameAnswerAgain asks twice, with other calls in between: nothing is kept.
func TestSameAnswerAgain(t *testing.T) {
	ask := func() []string {
		var l []string
		for _, b := range bitmaps() {
			for _, n := range numbers() {
				l = append(l, bitmap.Text(b, n), bitmap.Text(bitmap.With(b, n, true), 300), bitmap.Text(bitmap.Of(bitmap.Bits(b, n)...), 4096))
			}
		}
		return l
	}
	if !slices.Equal(ask(), ask()) {
		t.Error("P0.6: the same calls answer otherwise the second time")
	}
}
