package arena_test

import (
	"math"
	"slices"
	"testing"

	"shoring/api"
	"shoring/arena"
)

// The signatures are exact: another one doesn't compile here.
var (
	_ func(int) (*arena.Arena, api.Errno)                = arena.New
	_ func(*arena.Arena) int                             = (*arena.Arena).Words
	_ func(*arena.Arena, int, int) bool                  = (*arena.Arena).In
	_ func(*arena.Arena, int) (uint64, api.Errno)        = (*arena.Arena).Load
	_ func(*arena.Arena, int, ...uint64) api.Errno       = (*arena.Arena).Store
	_ func(*arena.Arena, int, int, int) api.Errno        = (*arena.Arena).Move
	_ func(*arena.Arena, int, int) api.Errno             = (*arena.Arena).Zero
	_ func(*arena.Arena, int, int) ([]uint64, api.Errno) = (*arena.Arena).Row
	_ func(int) int                                      = arena.Page
	_ func(int) int                                      = arena.Base
)

// all is a word of which each bit is 1.
const all uint64 = math.MaxUint64

// rule makes numbers one behind the other, that hang on the one it starts with alone.
type rule uint64

// next is the rule's next number.
func (r *rule) next() uint64 {
	*r = *r*6364136223846793005 + 1442695040888963407
	x := uint64(*r)
	return x ^ x>>29
}

// below is a number from 0 to n-1.
func (r *rule) below(n int) int { return int(r.next() >> 1 % uint64(n)) }

// words are as many words of the rule, none of them 0.
func (r *rule) words(n int) []uint64 {
	l := make([]uint64, n)
	for i := range l {
		l[i] = r.next() | 1
	}
	return l
}

// made is an arena of so many pages.
func made(t *testing.T, pages int) *arena.Arena {
	t.Helper()
	a, e := arena.New(pages)
	if e != api.OK || a == nil {
		t.Fatalf("P4.1: New(%d) = %v, %v", pages, a, e)
	}
	return a
}

// filled is an arena of 4 pages whose words all differ from 0, and what they are.
func filled(t *testing.T) (*arena.Arena, []uint64) {
	t.Helper()
	a := made(t, 4)
	r := rule(7)
	l := r.words(256)
	for at, w := range l {
		if e := a.Store(at, w); e != api.OK {
			t.Fatalf("P4.1: Store(%d, %x): %v", at, w, e)
		}
	}
	return a, l
}

// told are an arena's words, asked one by one.
func told(t *testing.T, a *arena.Arena) []uint64 {
	t.Helper()
	var l []uint64
	for at := range a.Words() {
		w, e := a.Load(at)
		if e != api.OK {
			t.Fatalf("P4.1: Load(%d): %v", at, e)
		}
		l = append(l, w)
	}
	return l
}

// there tells whether each of n words has an address below words: they are counted one by one, while it matters.
func there(words, at, n int) bool {
	if at < 0 || at > words || n < 0 {
		return false
	}
	for ; n > 0; n-- {
		if at >= words {
			return false
		}
		at++
	}
	return true
}

// wanted is the error of rows that are all there, or not.
func wanted(all bool) api.Errno {
	if all {
		return api.OK
	}
	return api.ErrRange
}

// numbers are those around the ends of pages and of 256 words, and both ends of an int.
func numbers() []int {
	l := []int{math.MinInt, math.MinInt + 1, math.MinInt + 255, math.MinInt + 256, math.MinInt + 257, -1 << 32, -1 << 31, -257, -256, -255, -65, -64, -63}
	for _, n := range []int{0, 64, 128, 250, 254, 258, 512, 65536, 1 << 31, 1 << 32, 1 << 58, 1 << 61, 1 << 62} {
		for d := -2; d <= 2; d++ {
			l = append(l, n+d)
		}
	}
	return append(l, math.MaxInt-257, math.MaxInt-256, math.MaxInt-255, math.MaxInt-254, math.MaxInt-64, math.MaxInt-1, math.MaxInt)
}

func TestNewTable(t *testing.T) {
	for _, c := range []struct {
		pages int
		want  api.Errno
	}{
		{math.MinInt, api.ErrArg}, {-4, api.ErrArg}, {-1, api.ErrArg}, {0, api.ErrArg}, {1, api.ErrArg}, {3, api.ErrArg}, {4, api.OK}, {5, api.OK}, {64, api.OK},
		{1023, api.OK}, {1024, api.OK}, {1025, api.ErrArg}, {1028, api.ErrArg}, {1 << 31, api.ErrArg}, {1 << 58, api.ErrArg}, {1<<58 + 4, api.ErrArg}, {math.MaxInt, api.ErrArg},
	} {
		a, e := arena.New(c.pages)
		if e != c.want || (a == nil) != (e != api.OK) {
			t.Errorf("P4.1, P0.2: New(%d) = %v, %v, not %v", c.pages, a != nil, e, c.want)
		}
	}
}

func TestWordsOfEachNumberOfPages(t *testing.T) {
	for pages := 4; pages <= 1024; pages++ {
		if n := made(t, pages).Words(); n != 64*pages {
			t.Errorf("P4.1: an arena of %d pages has %d words", pages, n)
		}
	}
}

func TestAllIsZeroAtFirst(t *testing.T) {
	for _, pages := range []int{4, 5, 100, 1024} {
		a := made(t, pages)
		if l := told(t, a); len(l) != 64*pages || slices.ContainsFunc(l, func(w uint64) bool { return w != 0 }) {
			t.Errorf("P4.1: an arena of %d pages isn't 0 at first", pages)
		}
		if l, e := a.Row(0, a.Words()); e != api.OK || !slices.Equal(l, make([]uint64, 64*pages)) {
			t.Errorf("P4.1: the row of all of an arena of %d pages isn't 0 at first: %v", pages, e)
		}
	}
}

func TestInTable(t *testing.T) {
	a := made(t, 4)
	for _, c := range []struct {
		at, n int
		want  bool
	}{
		{0, 0, true}, {0, 1, true}, {0, 256, true}, {0, 257, false}, {255, 1, true}, {255, 2, false}, {255, 0, true}, {256, 0, true}, {256, 1, false}, {257, 0, false}, {257, 1, false},
		{257, -1, false}, {256, -1, false}, {0, -1, false}, {10, -10, false}, {-1, 0, false}, {-1, 1, false}, {-1, 2, false}, {-1, 257, false}, {-5, 10, false}, {-5, -10, false},
		{192, 64, true}, {192, 65, false}, {1, 255, true}, {1, 256, false}, {1, math.MaxInt, false}, {math.MaxInt, 1, false}, {math.MaxInt, math.MaxInt, false}, {math.MaxInt, 0, false},
		{math.MinInt, 0, false}, {math.MinInt, math.MaxInt, false}, {math.MinInt, math.MinInt, false}, {0, math.MinInt, false}, {256, math.MinInt, false}, {math.MaxInt, math.MinInt, false}, {2, math.MaxInt - 1, false}, {1 << 62, 1 << 62, false}, {256, math.MaxInt - 255, false},
	} {
		if got := a.In(c.at, c.n); got != c.want {
			t.Errorf("P4.1: In(%d, %d) = %v", c.at, c.n, got)
		}
	}
}

func TestInOfAll(t *testing.T) {
	a := made(t, 4)
	for at := -3; at <= 300; at++ {
		for n := -3; n <= 300; n++ {
			if got := a.In(at, n); got != there(256, at, n) {
				t.Errorf("P4.1: In(%d, %d) = %v", at, n, got)
			}
		}
	}
}

func TestLoadTable(t *testing.T) {
	a, l := filled(t)
	for _, at := range append(numbers(), 5, 255, 256, 257) {
		w, e := a.Load(at)
		if at >= 0 && at < 256 {
			if e != api.OK || w != l[at] {
				t.Errorf("P4.1: Load(%d) = %x, %v, not %x", at, w, e, l[at])
			}
		} else if e != api.ErrRange || w != 0 {
			t.Errorf("P4.1, P0.2: Load(%d) = %x, %v", at, w, e)
		}
	}
}

func TestStoreTable(t *testing.T) {
	for _, c := range []struct {
		at   int
		l    []uint64
		want api.Errno
	}{
		{0, nil, api.OK}, {255, nil, api.OK}, {256, nil, api.OK}, {256, []uint64{}, api.OK}, {257, nil, api.ErrRange}, {-1, nil, api.ErrRange}, {-1, []uint64{}, api.ErrRange},
		{math.MinInt, nil, api.ErrRange}, {math.MaxInt, nil, api.ErrRange}, {0, []uint64{5}, api.OK}, {63, []uint64{1, 2}, api.OK}, {255, []uint64{all}, api.OK}, {256, []uint64{5}, api.ErrRange},
		{255, []uint64{5, 6}, api.ErrRange}, {254, []uint64{5, 6}, api.OK}, {254, []uint64{5, 6, 7}, api.ErrRange}, {-1, []uint64{5}, api.ErrRange}, {-1, []uint64{5, 6}, api.ErrRange}, {-2, []uint64{5, 6, 7, 8}, api.ErrRange},
		{math.MaxInt, []uint64{5}, api.ErrRange}, {math.MaxInt, []uint64{5, 6}, api.ErrRange}, {math.MinInt, []uint64{5, 6}, api.ErrRange}, {1 << 62, []uint64{5}, api.ErrRange},
		{0, slices.Repeat([]uint64{3}, 256), api.OK}, {1, slices.Repeat([]uint64{3}, 256), api.ErrRange}, {0, slices.Repeat([]uint64{3}, 257), api.ErrRange}, {100, []uint64{0, 0, 0}, api.OK},
	} {
		a, l := filled(t)
		if e := a.Store(c.at, c.l...); e != c.want {
			t.Errorf("P4.1: Store(%d, %x): %v, not %v", c.at, c.l, e, c.want)
		}
		for i := 0; c.want == api.OK && i < len(c.l); i++ {
			l[c.at+i] = c.l[i]
		}
		if !slices.Equal(told(t, a), l) {
			t.Errorf("P4.1, P4.2: Store(%d, %x) made %x, not %x", c.at, c.l, told(t, a), l)
		}
	}
}

// ends are addresses near both ends of an arena of 256 words.
func ends() []int {
	var l []int
	for d := -2; d <= 9; d++ {
		l = append(l, d, 256-d)
	}
	return append(l, 60, 64, 130)
}

// lengths are how many words are asked for: few, so that rows overlap, and many, so that they end at the arena's end.
func lengths() []int { return []int{-2, -1, 0, 1, 2, 3, 4, 5, 8, 9, 192, 246, 247, 255, 256, 257} }

// TestMoveOfAll moves rows over each other, from both sides, and over the ends.
func TestMoveOfAll(t *testing.T) {
	a, l := filled(t)
	for _, to := range ends() {
		for _, from := range ends() {
			for _, n := range lengths() {
				want := slices.Clone(l)
				may := there(256, to, n) && there(256, from, n)
				for i := 0; may && i < n; i++ {
					want[to+i] = l[from+i]
				}
				if e := a.Move(to, from, n); e != wanted(may) {
					t.Errorf("P4.1: Move(%d, %d, %d): %v, not %v", to, from, n, e, wanted(may))
				}
				if got, e := a.Row(0, 256); e != api.OK || !slices.Equal(got, want) {
					t.Errorf("P4.1, P4.2, P0.3: Move(%d, %d, %d) made %x of %x, not %x", to, from, n, got, l, want)
				}
				a.Store(0, l...)
			}
		}
	}
}

func TestMoveTable(t *testing.T) {
	for _, c := range []struct {
		to, from, n int
		want        api.Errno
	}{
		{0, 250, 6, api.OK}, {0, 250, 7, api.ErrRange}, {250, 0, 6, api.OK}, {250, 0, 7, api.ErrRange}, {250, 250, 6, api.OK}, {250, 250, 7, api.ErrRange}, {0, 0, -1, api.ErrRange}, {5, 9, -1, api.ErrRange},
		{256, 256, 0, api.OK}, {256, 0, 0, api.OK}, {0, 256, 0, api.OK}, {257, 0, 0, api.ErrRange}, {0, 257, 0, api.ErrRange}, {-1, 0, 0, api.ErrRange}, {0, -1, 0, api.ErrRange}, {-1, -1, 1, api.ErrRange}, {-1, 5, 3, api.ErrRange}, {5, -1, 3, api.ErrRange},
		{0, 0, math.MaxInt, api.ErrRange}, {math.MaxInt, 0, 1, api.ErrRange}, {0, math.MaxInt, 1, api.ErrRange}, {1, 1, math.MaxInt, api.ErrRange}, {0, 0, math.MinInt, api.ErrRange}, {math.MinInt, math.MinInt, math.MinInt, api.ErrRange}, {0, 0, 256, api.OK}, {1, 0, 256, api.ErrRange}, {0, 1, 256, api.ErrRange}, {0, 1, 255, api.OK}, {1, 0, 255, api.OK},
	} {
		a, l := filled(t)
		want := slices.Clone(l)
		for i := 0; c.want == api.OK && i < c.n; i++ {
			want[c.to+i] = l[c.from+i]
		}
		if e := a.Move(c.to, c.from, c.n); e != c.want || !slices.Equal(told(t, a), want) {
			t.Errorf("P4.1, P4.2: Move(%d, %d, %d): %v, not %v, or other words than asked", c.to, c.from, c.n, e, c.want)
		}
	}
}

// TestZeroAndRowOfAll asks each row near the ends, and those that numbers tell.
func TestZeroAndRowOfAll(t *testing.T) {
	a, l := filled(t)
	for _, at := range append(ends(), numbers()...) {
		for _, n := range append(lengths(), 7, 64, math.MinInt, math.MaxInt-256, math.MaxInt-1, math.MaxInt) {
			want := slices.Clone(l)
			may := n <= 256 && there(256, at, n)
			var row []uint64
			for i := 0; may && i < n; i++ {
				row = append(row, l[at+i])
				want[at+i] = 0
			}
			if got, e := a.Row(at, n); e != wanted(may) || !slices.Equal(got, row) {
				t.Errorf("P4.1: Row(%d, %d) = %x, %v, not %x, %v", at, n, got, e, row, wanted(may))
			}
			if e := a.Zero(at, n); e != wanted(may) {
				t.Errorf("P4.1: Zero(%d, %d): %v, not %v", at, n, e, wanted(may))
			}
			if got, e := a.Row(0, 256); e != api.OK || !slices.Equal(got, want) {
				t.Errorf("P4.1, P4.2, P0.3: Zero(%d, %d) made %x of %x, not %x", at, n, got, l, want)
			}
			a.Store(0, l...)
		}
	}
}

func TestPageTable(t *testing.T) {
	for _, c := range []struct{ at, want int }{
		{0, 0}, {1, 0}, {63, 0}, {64, 1}, {65, 1}, {127, 1}, {128, 2}, {255, 3}, {256, 4}, {65535, 1023}, {65536, 1024}, {65599, 1024}, {65600, 1025}, {1 << 40, 1 << 34},
		{math.MaxInt, 1<<57 - 1}, {-1, -1}, {-63, -1}, {-64, -1}, {-65, -1}, {-128, -1}, {math.MinInt, -1},
	} {
		if got := arena.Page(c.at); got != c.want {
			t.Errorf("P4.1: Page(%d) = %d, not %d", c.at, got, c.want)
		}
	}
}

func TestBaseTable(t *testing.T) {
	for _, c := range []struct{ page, want int }{
		{0, 0}, {1, 64}, {2, 128}, {3, 192}, {4, 256}, {1023, 65472}, {1024, 65536}, {1025, -1}, {2048, -1}, {1 << 58, -1}, {math.MaxInt, -1}, {-1, -1}, {-2, -1}, {math.MinInt, -1},
	} {
		if got := arena.Base(c.page); got != c.want {
			t.Errorf("P4.1: Base(%d) = %d, not %d", c.page, got, c.want)
		}
	}
}

// TestPageOfEachAddress counts pages up, 64 addresses of each.
func TestPageOfEachAddress(t *testing.T) {
	at := 0
	for page := range 1025 {
		if got := arena.Base(page); got != at {
			t.Errorf("P4.1: Base(%d) = %d, not %d", page, got, at)
		}
		for range 64 {
			if got := arena.Page(at); got != page {
				t.Errorf("P4.1: Page(%d) = %d, not %d", at, got, page)
			}
			at++
		}
	}
}

// step does a call that the rule chooses, to an arena and to words that are changed one by one; many of them aren't there.
func step(t *testing.T, a *arena.Arena, l []uint64, r *rule) {
	t.Helper()
	at, from, n := r.below(len(l)+8)-4, r.below(len(l)+8)-4, r.below(40)-2
	if r.below(9) == 0 {
		n = r.below(len(l) + 9)
	}
	may := there(len(l), at, n)
	switch r.below(5) {
	case 0:
		w, e := a.Load(at)
		if one := there(len(l), at, 1); e != wanted(one) || one && w != l[at] || !one && w != 0 {
			t.Fatalf("P4.1: Load(%d) = %x, %v", at, w, e)
		}
	case 1:
		words := r.words(max(n, 0))
		may = there(len(l), at, len(words))
		if e := a.Store(at, words...); e != wanted(may) {
			t.Fatalf("P4.1: Store(%d, %d words): %v", at, len(words), e)
		}
		for i := 0; may && i < len(words); i++ {
			l[at+i] = words[i]
		}
	case 2:
		may = may && there(len(l), from, n)
		if e := a.Move(at, from, n); e != wanted(may) {
			t.Fatalf("P4.1: Move(%d, %d, %d): %v", at, from, n, e)
		}
		if may {
			for i, w := range slices.Clone(l[from : from+n]) {
				l[at+i] = w
			}
		}
	case 3:
		if e := a.Zero(at, n); e != wanted(may) {
			t.Fatalf("P4.1: Zero(%d, %d): %v", at, n, e)
		}
		for i := 0; may && i < n; i++ {
			l[at+i] = 0
		}
	case 4:
		row, e := a.Row(at, n)
		if e != wanted(may) || may && !slices.Equal(row, l[at:at+n]) || !may && len(row) != 0 {
			t.Fatalf("P4.1: Row(%d, %d) = %x, %v", at, n, row, e)
		}
	}
}

// TestRowsOfCalls holds rows of calls against words that are changed one by one.
func TestRowsOfCalls(t *testing.T) {
	for seed := range 20 {
		r := rule(seed)
		pages := 4 + seed%3
		a, l := made(t, pages), make([]uint64, 64*pages)
		for range 2000 {
			step(t, a, l, &r)
			if got, e := a.Row(0, len(l)); e != api.OK || !slices.Equal(got, l) {
				t.Fatalf("P4.2: seed %d: %x, %v, not %x", seed, got, e, l)
			}
			if a.Words() != len(l) {
				t.Fatalf("P4.2: seed %d: %d words, not %d", seed, a.Words(), len(l))
			}
		}
		if got := told(t, a); !slices.Equal(got, l) {
			t.Errorf("P4.1: seed %d: Load tells %x, not %x", seed, got, l)
		}
	}
}

// TestGreatest asks the greatest arena at its end.
func TestGreatest(t *testing.T) {
	a := made(t, 1024)
	if a.Store(65534, 1, 2) != api.OK || a.Store(65535, 1, 2) != api.ErrRange || a.Move(0, 65534, 2) != api.OK || a.Move(65535, 0, 2) != api.ErrRange {
		t.Error("P4.1: Store or Move at the greatest arena's end")
	}
	want := make([]uint64, 65536)
	want[0], want[1], want[65534], want[65535] = 1, 2, 1, 2
	if l, e := a.Row(0, 65536); e != api.OK || !slices.Equal(l, want) {
		t.Error("P4.2: other words than were stored and moved", e)
	}
	if _, e := a.Load(65536); e != api.ErrRange || !a.In(65536, 0) || a.In(65536, 1) || a.Zero(0, 65537) != api.ErrRange || a.Zero(0, 65536) != api.OK {
		t.Error("P4.1: Load, In or Zero at the greatest arena's end", e)
	}
	if l, e := a.Row(0, 65536); e != api.OK || !slices.Equal(l, make([]uint64, 65536)) {
		t.Error("P4.1: Zero of all", e)
	}
}

// TestWhatIsAskedStays asks all that changes nothing, and all that is refused.
func TestWhatIsAskedStays(t *testing.T) {
	a, l := filled(t)
	for _, at := range append(numbers(), 100, 255, 256) {
		for _, n := range append(numbers(), 100, 255) {
			a.In(at, n)
			a.Load(at)
			a.Row(at, n)
			arena.Page(at)
			arena.Base(n)
			if n <= 256 && there(256, at, n) {
				continue
			}
			for _, e := range []api.Errno{a.Zero(at, n), a.Move(at, 0, n), a.Move(0, at, n), a.Move(at, at, n)} {
				if e != api.ErrRange {
					t.Errorf("P4.1: Zero or Move with %d and %d: %v", at, n, e)
				}
			}
		}
		if !there(256, at, 2) && a.Store(at, 1, 2) != api.ErrRange {
			t.Errorf("P4.1: Store(%d) of two words isn't refused", at)
		}
	}
	if !slices.Equal(told(t, a), l) || a.Words() != 256 {
		t.Errorf("P4.2, P0.3: calls that are refused or ask made %x of %x", told(t, a), l)
	}
}

// TestNil asks a nil arena all that an arena is asked: it has no words.
func TestNil(t *testing.T) {
	var a *arena.Arena
	if a.Words() != 0 {
		t.Error("P4.1: a nil arena has words")
	}
	for _, at := range numbers() {
		if w, e := a.Load(at); w != 0 || e != api.ErrRange {
			t.Errorf("P4.1: nil: Load(%d) = %x, %v", at, w, e)
		}
		if e := a.Store(at); e != wanted(at == 0) {
			t.Errorf("P4.1: nil: Store(%d) of none: %v", at, e)
		}
		if e := a.Store(at, 1, 2); e != api.ErrRange {
			t.Errorf("P4.1: nil: Store(%d): %v", at, e)
		}
		for _, n := range numbers() {
			want := wanted(at == 0 && n == 0)
			if got := a.In(at, n); got != (want == api.OK) {
				t.Errorf("P4.1: nil: In(%d, %d) = %v", at, n, got)
			}
			if l, e := a.Row(at, n); e != want || len(l) != 0 {
				t.Errorf("P4.1: nil: Row(%d, %d) = %x, %v", at, n, l, e)
			}
			if e := a.Zero(at, n); e != want {
				t.Errorf("P4.1: nil: Zero(%d, %d): %v", at, n, e)
			}
			if e := a.Move(at, 0, n); e != want {
				t.Errorf("P4.1: nil: Move(%d, 0, %d): %v", at, n, e)
			}
			if e := a.Move(0, at, n); e != want {
				t.Errorf("P4.1: nil: Move(0, %d, %d): %v", at, n, e)
			}
		}
	}
}

// TestNothingPanics hands in all numbers to an arena and to a nil one: a panic ends the test.
func TestNothingPanics(t *testing.T) {
	for _, a := range []*arena.Arena{nil, made(t, 4)} {
		for _, at := range numbers() {
			arena.New(at)
			arena.Page(at)
			arena.Base(at)
			a.Load(at)
			a.Store(at)
			a.Store(at, 1, 2, 3)
			for _, n := range numbers() {
				a.In(at, n)
				a.Row(at, n)
				a.Zero(at, n)
				for _, from := range []int{math.MinInt, -1, 0, 1, 128, 255, 256, 257, math.MaxInt} {
					a.Move(at, from, n)
				}
			}
		}
	}
}

// TestListsAreLeftAndNotKept stores words with room behind them, and writes into them afterwards.
func TestListsAreLeftAndNotKept(t *testing.T) {
	a := made(t, 4)
	room := []uint64{1, 2, 3, 77, 78}
	kept := slices.Clone(room)
	for _, at := range []int{0, 100, 253, 254, 256, -1} {
		a.Store(at, room[:3]...)
		a.Move(at+1, at, 2)
		a.Zero(at, 2)
		if !slices.Equal(room, kept) {
			t.Fatalf("P0.4: Store(%d) made %x of %x", at, room, kept)
		}
	}
	a.Store(10, room[:3]...)
	before := told(t, a)
	clear(room)
	if !slices.Equal(told(t, a), before) {
		t.Error("P0.4: an arena keeps the list that was stored")
	}
}

// TestRowsAreNew writes into rows that are answered, up to the end of their room.
func TestRowsAreNew(t *testing.T) {
	a, l := filled(t)
	for _, at := range []int{0, 5, 200, 255, 256} {
		for _, n := range []int{0, 1, 2, 56, 256} {
			row, _ := a.Row(at, n)
			other, _ := a.Row(at, n)
			row = row[:cap(row)]
			for i := range row {
				row[i] = 99
			}
			if !slices.Equal(told(t, a), l) || a.In(at, n) && !slices.Equal(other, l[at:at+n]) {
				t.Fatalf("P0.4: writing into Row(%d, %d) changes the arena, or another row", at, n)
			}
		}
	}
	row, _ := a.Row(0, 256)
	a.Zero(0, 256)
	if !slices.Equal(row, l) {
		t.Error("P0.4: Zero changes a row that was answered before")
	}
}

// TestNilIsEmpty stores a nil list and an empty one, at every number.
func TestNilIsEmpty(t *testing.T) {
	a, l := filled(t)
	for _, at := range numbers() {
		if x, y := a.Store(at, nil...), a.Store(at, []uint64{}...); x != y || x != wanted(at >= 0 && at <= 256) {
			t.Errorf("P0.5: Store(%d) of nil: %v, of an empty list: %v", at, x, y)
		}
	}
	if !slices.Equal(told(t, a), l) {
		t.Error("P4.2: Store of no words changes some")
	}
}

// TestArenasAreApart changes one of two arenas.
func TestArenasAreApart(t *testing.T) {
	a, l := filled(t)
	b, _ := filled(t)
	b.Zero(0, 256)
	b.Store(5, 1, 2)
	b.Move(100, 5, 2)
	if !slices.Equal(told(t, a), l) {
		t.Error("P0.6: calls to one arena change another")
	}
}

// TestSameAnswersAgain does the same row of calls to two arenas, one behind the other.
func TestSameAnswersAgain(t *testing.T) {
	do := func() []uint64 {
		a := made(t, 6)
		r := rule(99)
		var l []uint64
		for range 3000 {
			at, from, n := r.below(400)-5, r.below(400)-5, r.below(60)-2
			l = append(l, uint64(a.Store(at, r.words(3)...)), uint64(a.Move(at, from, n)), uint64(a.Zero(from, n/4)))
			row, e := a.Row(from, n)
			l = append(append(l, uint64(e)), row...)
		}
		return l
	}
	if !slices.Equal(do(), do()) {
		t.Error("P0.6: the same calls answer otherwise the second time")
	}
}
