package fns_test

import (
	"math"
	"slices"
	"testing"

	"shoring/api"
	"shoring/fns"
)

// The signatures are exact: another one doesn't compile here.
var (
	_ func(...api.Fn) bool                    = fns.May
	_ func(...api.Fn) (*fns.Table, api.Errno) = fns.New
	_ func(*fns.Table) int                    = (*fns.Table).Len
	_ func(*fns.Table, int) int               = (*fns.Table).Size
	_ func(*fns.Table, int) int               = (*fns.Table).Words
	_ func(*fns.Table, int, int) bool         = (*fns.Table).Ptr
	_ func(*fns.Table, int) []int             = (*fns.Table).Ptrs
	_ func(*fns.Table) []api.Fn               = (*fns.Table).Fns
	_ func(...api.Fn) int                     = fns.Least
)

// all is a word of which each bit is 1.
const all uint64 = math.MaxUint64

// rule makes numbers one behind the other, that hang on the one it starts with alone.
type rule uint64

// next is the rule's next number.
func (r *rule) next() uint64 {
	*r = *r*6364136223846793005 + 1442695040888963407
	x := uint64(*r)
	return x ^ x>>29
}

// below is a number from 0 to n-1.
func (r *rule) below(n int) int { return int(r.next() >> 1 % uint64(n)) }

// fn is a function that may be, of any size, with any bits, and words 0 behind them.
func (r *rule) fn() api.Fn {
	size := r.below(70)
	if r.below(3) == 0 {
		size = r.below(1001)
	}
	words := make([]uint64, (size+63)/64+r.below(4))
	for i := range size {
		if r.below(3) == 0 {
			words[i/64] |= 1 << (i % 64)
		}
	}
	return api.Fn{Size: size, Ptrs: words}
}

// list is as many functions that may be.
func (r *rule) list(n int) []api.Fn {
	var l []api.Fn
	for range n {
		l = append(l, r.fn())
	}
	return l
}

// bad are functions that may not be: of too few slots, of too many, and with bits that no slot has.
func bad() []api.Fn {
	return []api.Fn{
		{Size: -1}, {Size: math.MinInt}, {Size: -64}, {Size: -63, Ptrs: []uint64{1}}, {Size: -1, Ptrs: []uint64{0, 0}}, {Size: -1 << 32},
		{Size: 1001}, {Size: 1002}, {Size: 1024}, {Size: 4096}, {Size: math.MaxInt}, {Size: math.MaxInt - 1}, {Size: 1 << 31}, {Size: 1 << 32}, {Size: 1<<32 + 3},
		{Size: 1001, Ptrs: []uint64{1}}, {Size: 4096, Ptrs: []uint64{all}}, {Size: math.MaxInt, Ptrs: one(5)},
		{Size: 0, Ptrs: []uint64{1}}, {Size: 0, Ptrs: []uint64{1 << 63}}, {Size: 0, Ptrs: []uint64{0, 1}}, {Size: 2, Ptrs: []uint64{4}}, {Size: 2, Ptrs: []uint64{7}},
		{Size: 63, Ptrs: []uint64{1 << 63}}, {Size: 63, Ptrs: []uint64{all}}, {Size: 64, Ptrs: []uint64{0, 1}}, {Size: 64, Ptrs: []uint64{all, 1}}, {Size: 65, Ptrs: []uint64{0, 2}},
		{Size: 3, Ptrs: []uint64{1, 0, 0, 8}}, {Size: 1000, Ptrs: one(1000)}, {Size: 1000, Ptrs: one(1023)}, {Size: 1000, Ptrs: one(1024)},
		{Size: 1000, Ptrs: one(4095)}, {Size: 1000, Ptrs: one(4096)}, {Size: 1000, Ptrs: one(5000)}, {Size: 3, Ptrs: one(1 << 20)}, {Size: 0, Ptrs: one(4097)},
	}
}

// good are functions that may be, at the ends of what may be.
func good() []api.Fn {
	full := slices.Repeat([]uint64{all}, 15)
	return []api.Fn{
		{}, {Ptrs: []uint64{}}, {Ptrs: []uint64{0}}, {Ptrs: make([]uint64, 80)}, {Size: 1}, {Size: 1, Ptrs: []uint64{1}}, {Size: 1, Ptrs: []uint64{0}},
		{Size: 3, Ptrs: []uint64{2}}, {Size: 3, Ptrs: []uint64{5, 0, 0}}, {Size: 3, Ptrs: []uint64{7}}, {Size: 3, Ptrs: append([]uint64{7}, make([]uint64, 1<<15)...)},
		{Size: 63, Ptrs: []uint64{all >> 1}}, {Size: 64, Ptrs: []uint64{all}}, {Size: 64, Ptrs: []uint64{1 << 63, 0}}, {Size: 65, Ptrs: []uint64{0, 1}}, {Size: 65, Ptrs: []uint64{all, 1, 0}},
		{Size: 128, Ptrs: []uint64{0, 1 << 63}}, {Size: 999}, {Size: 999, Ptrs: one(998)}, {Size: 1000}, {Size: 1000, Ptrs: one(0)}, {Size: 1000, Ptrs: one(999)},
		{Size: 1000, Ptrs: append(full, 1<<40-1)}, {Size: 1000, Ptrs: make([]uint64, 64)}, {Size: 1000, Ptrs: []uint64{0, 0, 9, 0}},
	}
}

// one is a bitmap of one bit, in as few words as have it.
func one(i int) []uint64 {
	b := make([]uint64, i/64+1)
	b[i/64] = 1 << (i % 64)
	return b
}

// numbers are those around functions, slots, ends of words and of bitmaps, and both ends of an int.
func numbers() []int {
	l := []int{math.MinInt, math.MinInt + 1, math.MinInt + 63, math.MinInt + 64, -1 << 32, -4096, -1000, -100, -65, -64, -63, -3}
	for _, n := range []int{0, 32, 64, 100, 128, 192, 960, 1000, 1024, 4096, 5000, 1 << 31, 1 << 32, 1 << 62} {
		for d := -2; d <= 2; d++ {
			l = append(l, n+d)
		}
	}
	return append(l, math.MaxInt-64, math.MaxInt-63, math.MaxInt-1, math.MaxInt)
}

// slow are which bits of a bitmap are 1, rising: each word is halved, from the lowest bit on.
func slow(b []uint64) []int {
	var l []int
	for i, w := range b {
		for k := range 64 {
			if w%2 == 1 {
				l = append(l, 64*i+k)
			}
			w /= 2
		}
	}
	return l
}

// mayBe tells whether a function may be, as the chapter tells it.
func mayBe(x api.Fn) bool {
	for _, i := range slow(x.Ptrs) {
		if i >= x.Size {
			return false
		}
	}
	return x.Size >= 0 && x.Size <= 1000
}

// trimmed is a bitmap up to its last word that isn't 0, as a copy.
func trimmed(b []uint64) []uint64 {
	n := 0
	for i, w := range b {
		if w != 0 {
			n = i + 1
		}
	}
	return append([]uint64{}, b[:n]...)
}

// sameFns tells whether functions are the same, word by word of their bitmaps.
func sameFns(a, b []api.Fn) bool {
	return slices.EqualFunc(a, b, func(x, y api.Fn) bool { return x.Size == y.Size && slices.Equal(x.Ptrs, y.Ptrs) })
}

// copied are functions in other memory, all words of their bitmaps told.
func copied(l []api.Fn) []api.Fn {
	var c []api.Fn
	for _, x := range l {
		c = append(c, api.Fn{Size: x.Size, Ptrs: slices.Clone(x.Ptrs)})
	}
	return c
}

// table is one of functions that may be.
func table(t *testing.T, l ...api.Fn) *fns.Table {
	t.Helper()
	x, e := fns.New(l...)
	if e != api.OK || x == nil {
		t.Fatalf("P13.1: New of %d functions that may be: %v", len(l), e)
	}
	return x
}

// hold holds all that a table answers against the functions that it is of.
func hold(t *testing.T, promise string, x *fns.Table, l []api.Fn) {
	t.Helper()
	if x.Len() != len(l) {
		t.Fatalf("%s: Len() = %d, not %d", promise, x.Len(), len(l))
	}
	f := numbers()
	for i := -3; i < len(l)+3; i++ {
		f = append(f, i)
	}
	for _, f := range f {
		if f >= 0 && f < len(l) {
			holdFn(t, promise, x, f, l[f])
			continue
		}
		if size, words, ptrs := x.Size(f), x.Words(f), x.Ptrs(f); size != -1 || words != -1 || len(ptrs) != 0 {
			t.Fatalf("%s: of %d functions the function %d has %d slots, %d words, the pointer slots %v", promise, len(l), f, size, words, ptrs)
		}
		for _, slot := range numbers() {
			if x.Ptr(f, slot) {
				t.Fatalf("%s: of %d functions Ptr(%d, %d)", promise, len(l), f, slot)
			}
		}
	}
	var want []api.Fn
	for _, fn := range l {
		want = append(want, api.Fn{Size: fn.Size, Ptrs: trimmed(fn.Ptrs)})
	}
	if got := x.Fns(); !sameFns(got, want) {
		t.Fatalf("%s: Fns() = %v, not %v", promise, got, want)
	}
}

// holdFn holds what a table answers of a function that is there.
func holdFn(t *testing.T, promise string, x *fns.Table, f int, fn api.Fn) {
	t.Helper()
	if got := x.Size(f); got != fn.Size {
		t.Fatalf("%s: Size(%d) = %d, not %d", promise, f, got, fn.Size)
	}
	if got := x.Words(f); got != 2+fn.Size {
		t.Fatalf("%s: Words(%d) = %d, not %d", promise, f, got, 2+fn.Size)
	}
	ptrs := slow(fn.Ptrs)
	if got := x.Ptrs(f); !slices.Equal(got, ptrs) {
		t.Fatalf("%s: Ptrs(%d) = %v, not %v", promise, f, got, ptrs)
	}
	is := map[int]bool{}
	for _, slot := range ptrs {
		is[slot] = true
	}
	slots := numbers()
	for slot := range fn.Size + 70 {
		slots = append(slots, slot)
	}
	for _, slot := range slots {
		if got := x.Ptr(f, slot); got != is[slot] {
			t.Fatalf("%s: Ptr(%d, %d) = %v, not %v", promise, f, slot, got, is[slot])
		}
	}
}

func TestMayTable(t *testing.T) {
	for _, x := range good() {
		if !fns.May(x) {
			t.Errorf("P13.1: May of %d slots and the bits %v: false", x.Size, slow(x.Ptrs))
		}
	}
	for _, x := range bad() {
		if fns.May(x) {
			t.Errorf("P13.1: May of %d slots and the bits %v: true", x.Size, slow(x.Ptrs))
		}
	}
}

func TestMayOfSeveral(t *testing.T) {
	if !fns.May() || !fns.May([]api.Fn{}...) || !fns.May(good()...) || !fns.May(make([]api.Fn, 100)...) || !fns.May(make([]api.Fn, 101)...) || !fns.May(make([]api.Fn, 5000)...) {
		t.Error("P13.1: May of none, of as many as a table has, or of more: false")
	}
	for _, x := range bad() {
		for i := range len(good()) + 1 {
			if l := slices.Insert(good(), i, x); fns.May(l...) {
				t.Errorf("P13.1: May of functions of which the one at %d has %d slots and the bits %v: true", i, x.Size, slow(x.Ptrs))
			}
		}
		if fns.May(x, x) {
			t.Errorf("P13.1: May of twice %d slots and the bits %v: true", x.Size, slow(x.Ptrs))
		}
	}
}

// TestMayOfEachSize asks of each size, and of one bit: at both of its ends, at those of words, and far off.
func TestMayOfEachSize(t *testing.T) {
	for size := -70; size <= 1100; size++ {
		for _, i := range append(numbers(), size-1, size, size+1, size/64*64, size/64*64+63, size/64*64+64) {
			if i < 0 || i > 1<<13 {
				continue
			}
			x := api.Fn{Size: size, Ptrs: one(i)}
			if got := fns.May(x); got != mayBe(x) {
				t.Errorf("P13.1: May of %d slots and the bit %d: %v", size, i, got)
			}
			x.Ptrs = append(x.Ptrs, 0, 0)
			if got := fns.May(x); got != mayBe(x) {
				t.Errorf("P13.1: May of %d slots, the bit %d and words 0: %v", size, i, got)
			}
		}
	}
}

func TestNewOfWrong(t *testing.T) {
	refused := func(why string, l ...api.Fn) {
		t.Helper()
		if x, e := fns.New(l...); x != nil || e != api.ErrArg {
			t.Errorf("P13.1: New of %s: %v, %v", why, x, e)
		}
	}
	refused("none")
	refused("none", []api.Fn{}...)
	for _, n := range []int{101, 102, 128, 1000, 5000} {
		refused("too many", make([]api.Fn, n)...)
	}
	for _, x := range bad() {
		refused("one that may not be", x)
		refused("one that may not be, behind others", append(good(), x)...)
		refused("one that may not be, ahead of others", append([]api.Fn{x}, good()...)...)
		refused("one that may not be, of 100", append(make([]api.Fn, 99), x)...)
		refused("one that may not be, and too many", append(make([]api.Fn, 100), x)...)
	}
}

func TestNewOfEachNumber(t *testing.T) {
	for n := 1; n <= 100; n++ {
		l := make([]api.Fn, n)
		for f := range l {
			l[f] = api.Fn{Size: 10 * f, Ptrs: one(5 * f)}
		}
		l[0] = api.Fn{}
		x := table(t, l...)
		if x.Len() != n || x.Size(0) != 0 || x.Size(n) != -1 || x.Words(n) != -1 || x.Ptr(n, 0) || x.Size(n-1) != 10*(n-1) || x.Words(n-1) != 10*(n-1)+2 || len(x.Fns()) != n {
			t.Errorf("P13.1: a table of %d functions has %d, the last one of %d slots", n, x.Len(), x.Size(n-1))
		}
	}
}

func TestTableOfExample(t *testing.T) {
	x := table(t, api.Fn{Size: 3, Ptrs: []uint64{2}})
	if x.Ptr(0, 0) || !x.Ptr(0, 1) || x.Ptr(0, 2) || x.Words(0) != 5 || !slices.Equal(x.Ptrs(0), []int{1}) {
		t.Errorf("P13.1: of 3 slots and the bitmap 2: the pointer slots %v, %d words", x.Ptrs(0), x.Words(0))
	}
}

func TestTableOfGood(t *testing.T) {
	hold(t, "P13.1", table(t, good()...), good())
	for _, x := range good() {
		hold(t, "P13.1", table(t, x), []api.Fn{x})
	}
}

func TestTableOfMany(t *testing.T) {
	r := rule(13)
	for _, n := range []int{1, 2, 3, 5, 8, 20, 99, 100} {
		l := r.list(n)
		hold(t, "P13.1", table(t, l...), l)
	}
	l := slices.Repeat([]api.Fn{{Size: 4, Ptrs: []uint64{9}}}, 100)
	hold(t, "P13.1", table(t, l...), l)
}

// TestTableOfEachSize has all slots a pointer slot but for one, in each size.
func TestTableOfEachSize(t *testing.T) {
	for size := range 1001 {
		b := make([]uint64, 16)
		for i := range size {
			if i != size/2 {
				b[i/64] |= 1 << (i % 64)
			}
		}
		x := table(t, api.Fn{Size: size, Ptrs: b})
		holdFn(t, "P13.1", x, 0, api.Fn{Size: size, Ptrs: b})
		if got := x.Fns(); len(got) != 1 || !slices.Equal(got[0].Ptrs, trimmed(b)) {
			t.Errorf("P13.1: Fns() of one of %d slots: %v", size, got)
		}
	}
}

func TestFnsThereAndBack(t *testing.T) {
	r := rule(31)
	for range 20 {
		l := r.list(1 + r.below(100))
		x := table(t, l...)
		y := table(t, x.Fns()...)
		hold(t, "P13.1", y, l)
		if !sameFns(x.Fns(), y.Fns()) {
			t.Errorf("P13.1: Fns() of the table of Fns() are %v, not %v", y.Fns(), x.Fns())
		}
	}
}

func TestNilTable(t *testing.T) {
	hold(t, "P0.1", nil, nil)
}

func TestLeastTable(t *testing.T) {
	for _, c := range []struct {
		l    []api.Fn
		want int
	}{
		{nil, 0}, {[]api.Fn{}, 0}, {[]api.Fn{{}}, 2}, {[]api.Fn{{Size: 1}}, 3}, {[]api.Fn{{Size: 3, Ptrs: []uint64{2}}}, 5}, {[]api.Fn{{Size: 1000}}, 1002},
		{[]api.Fn{{Size: 4}, {Size: 7}, {Size: 2000}}, 9}, {[]api.Fn{{Size: 7}, {Size: 4}}, 9}, {[]api.Fn{{Size: 4}, {Size: 7}, {Size: 5}}, 9}, {[]api.Fn{{Size: 7}, {Size: 7}}, 9},
		{[]api.Fn{{Size: 1001}}, 0}, {[]api.Fn{{Size: -1}}, 0}, {[]api.Fn{{Size: -1}, {}}, 2}, {[]api.Fn{{}, {Size: -5}, {Size: math.MaxInt}}, 2},
		{[]api.Fn{{Size: math.MaxInt}, {Size: math.MinInt}}, 0}, {[]api.Fn{{Size: 8, Ptrs: []uint64{256}}, {Size: 3}}, 5}, {[]api.Fn{{Size: 3}, {Size: 8, Ptrs: []uint64{128}}}, 10},
		{[]api.Fn{{Size: 900, Ptrs: one(5000)}, {Size: 1000, Ptrs: one(1000)}}, 0}, {make([]api.Fn, 5000), 2}, {append(make([]api.Fn, 300), api.Fn{Size: 20}), 22},
		{bad(), 0}, {good(), 1002}, {append(bad(), api.Fn{Size: 64}), 66}, {append([]api.Fn{{Size: 64}}, bad()...), 66},
	} {
		if got := fns.Least(c.l...); got != c.want {
			t.Errorf("P13.1: Least of %d functions = %d, not %d", len(c.l), got, c.want)
		}
	}
}

func TestLeastOfEach(t *testing.T) {
	for size := -20; size <= 1020; size++ {
		want := size + 2
		if size < 0 || size > 1000 {
			want = 0
		}
		if got := fns.Least(api.Fn{Size: size}); got != want {
			t.Errorf("P13.1: Least of %d slots = %d, not %d", size, got, want)
		}
	}
	r := rule(7)
	for range 300 {
		l, want := r.list(r.below(8)), 0
		for i := range l {
			if l[i].Size += r.below(3) - 1; mayBe(l[i]) {
				want = max(want, l[i].Size+2)
			}
		}
		if got := fns.Least(l...); got != want {
			t.Errorf("P13.1: Least of %v = %d, not %d", l, got, want)
		}
	}
}

// TestHandedInWrittenInto writes into all that a table was made of, behind New.
func TestHandedInWrittenInto(t *testing.T) {
	r := rule(99)
	for range 20 {
		l := r.list(1 + r.below(100))
		kept := copied(l)
		x := table(t, l...)
		for i := range l {
			for k := range l[i].Ptrs {
				l[i].Ptrs[k] ^= all
			}
		}
		hold(t, "P13.2", x, kept)
		for i := range l {
			l[i] = api.Fn{Size: -7}
		}
		hold(t, "P13.2", x, kept)
		clear(l)
		hold(t, "P13.2", x, kept)
	}
}

// TestSharedBitmap has two functions, and two tables, with one bitmap, that is written into in between.
func TestSharedBitmap(t *testing.T) {
	room := make([]uint64, 4, 16)
	room[0], room[1] = 5, 3
	l := []api.Fn{{Size: 66, Ptrs: room}, {Size: 200, Ptrs: room}, {Size: 70, Ptrs: room[:2]}}
	kept := copied(l)
	x := table(t, l...)
	room[0], room[3] = 8, 1
	later := copied(l[1:])
	y := table(t, l[1:]...)
	clear(room)
	hold(t, "P13.2", x, kept)
	hold(t, "P13.2", y, later)
}

// TestAnswersWrittenInto writes into all that a table answers, up to the end of its room.
func TestAnswersWrittenInto(t *testing.T) {
	r := rule(5)
	l := append(good(), r.list(20)...)
	x := table(t, l...)
	for range 2 {
		for f := range l {
			p := x.Ptrs(f)
			p = p[:cap(p)]
			for i := range p {
				p[i] = -9
			}
		}
		a := x.Fns()
		for i := range a {
			b := a[i].Ptrs
			b = b[:cap(b)]
			for k := range b {
				b[k] ^= all
			}
			a[i].Size = 77
		}
		clear(a[:cap(a)])
		hold(t, "P0.4", x, l)
	}
}

// TestAnswersApart asks twice, and writes into the first answer alone: the second one, and the other lists of the first one, stay.
func TestAnswersApart(t *testing.T) {
	shared := []uint64{6, 0, 1}
	l := slices.Repeat([]api.Fn{{Size: 200, Ptrs: shared}}, 3)
	x := table(t, l...)
	a, b := x.Fns(), x.Fns()
	a[0].Ptrs[0] = 99
	a[0].Ptrs = append(a[0].Ptrs, 1, 2, 3)
	if !slices.Equal(a[1].Ptrs, shared) || !slices.Equal(a[2].Ptrs, shared) || !sameFns(b, l) || !slices.Equal(shared, []uint64{6, 0, 1}) {
		t.Errorf("P0.4: writing into one bitmap makes the others %v, %v, %v", a, b, shared)
	}
	p, q := x.Ptrs(1), x.Ptrs(1)
	p[0] = 99
	if !slices.Equal(q, []int{1, 2, 128}) {
		t.Errorf("P0.4: writing into pointer slots makes others %v", q)
	}
}

// TestNothingHandedInIsChanged hands in lists and bitmaps that are pieces of longer ones.
func TestNothingHandedInIsChanged(t *testing.T) {
	words := []uint64{5, 0, 0, all, all}
	room := []api.Fn{{Size: 3, Ptrs: words[:1]}, {Size: 70, Ptrs: words[:2]}, {Size: 9, Ptrs: words[:3]}, {Size: 2, Ptrs: words}, {Size: -1, Ptrs: words[1:2]}, {Size: 4}}
	keptWords, kept := slices.Clone(words), copied(room)
	for n := range len(room) + 1 {
		fns.May(room[:n]...)
		fns.Least(room[:n]...)
		if x, e := fns.New(room[:n]...); e == api.OK {
			hold(t, "P13.1", x, kept[:n])
		} else if n > 0 && n < 4 {
			t.Errorf("P13.1: New of %d: %v", n, e)
		}
		if !slices.Equal(words, keptWords) || !sameFns(room, kept) {
			t.Fatalf("P0.4: the calls made %v and %v of %v and %v", words, room, keptWords, kept)
		}
	}
}

// TestTablesApart has a table asked ahead of others, and behind them: nothing of one hangs on another.
func TestTablesApart(t *testing.T) {
	r := rule(17)
	var tables []*fns.Table
	var lists [][]api.Fn
	for n := 1; n <= 12; n++ {
		l := r.list(n)
		tables, lists = append(tables, table(t, l...)), append(lists, l)
		fns.New(bad()...)
		fns.New(make([]api.Fn, 101)...)
	}
	for range 2 {
		for i, x := range tables {
			hold(t, "P0.6", x, lists[i])
		}
	}
}
