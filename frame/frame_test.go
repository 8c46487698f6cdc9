package frame_test

import (
	"math"
	"slices"
	"testing"

	"shoring/api"
	"shoring/arena"
	"shoring/fns"
	"shoring/frame"
)

// The signatures are exact: another one doesn't compile here.
var (
	_ func(*arena.Arena, *fns.Table, int, int, int, int) (int, api.Errno) = frame.Push
	_ func(*arena.Arena, *fns.Table, int) (api.Frame, api.Errno)          = frame.Read
	_ func(*fns.Table, api.Frame) int                                     = frame.End
	_ func(*fns.Table, api.Frame, int) (int, api.Errno)                   = frame.Slot
	_ func(*arena.Arena, ...api.Frame) api.Errno                          = frame.Links
)

// size is how many words an arena of 4 pages has.
const size = 256

// rule makes numbers one behind the other, that hang on the one it starts with alone.
type rule uint64

// next is the rule's next number.
func (r *rule) next() uint64 {
	*r = *r*6364136223846793005 + 1442695040888963407
	x := uint64(*r)
	return x ^ x>>29
}

// below is a number from 0 to n-1.
func (r *rule) below(n int) int { return int(r.next() >> 1 % uint64(n)) }

// numbers are those around the ends of an arena of 256 words, around heads and functions, and both ends of an int.
func numbers() []int {
	l := []int{math.MinInt, math.MinInt + 1, math.MinInt + 2, math.MinInt + 5, math.MinInt + 256, math.MinInt + 257, -1 << 32, -1 << 31, -257, -256, -5, -3}
	for _, n := range []int{0, 5, 16, 64, 251, 256, 1002, 1 << 31, 1 << 32, 1 << 40, 1 << 62} {
		for d := -2; d <= 2; d++ {
			l = append(l, n+d)
		}
	}
	return append(l, math.MaxInt-256, math.MaxInt-5, math.MaxInt-2, math.MaxInt-1, math.MaxInt)
}

// few are those of the numbers that a call is asked for in each row of four.
func few() []int {
	return []int{math.MinInt, math.MinInt + 1, math.MinInt + 5, -257, -2, -1, 0, 1, 2, 4, 5, 6, 16, 250, 251, 252, 253, 254, 255, 256, 257, 1 << 32, math.MaxInt - 5, math.MaxInt - 1, math.MaxInt}
}

// sizes are how many slots the functions of a table have that is asked.
func sizes() []int { return []int{3, 0, 1, 14, 252, 254, 255, 1000} }

// table is one of functions of these sizes; the first slot of some is a pointer slot, which frames don't ask.
func table(t *testing.T, l ...int) *fns.Table {
	t.Helper()
	var f []api.Fn
	for i, n := range l {
		f = append(f, api.Fn{Size: n, Ptrs: []uint64{uint64(min(n, i%2))}})
	}
	x, e := fns.New(f...)
	if e != api.OK {
		t.Fatalf("a table of %v: %v", l, e)
	}
	return x
}

// slots is how many slots a function of a table of these sizes has; -1, if there is none.
func slots(l []int, f int) int {
	if f < 0 || f >= len(l) {
		return -1
	}
	return l[f]
}

// made is an arena of these words, one at each of its addresses.
func made(t *testing.T, words []uint64) *arena.Arena {
	t.Helper()
	a, e := arena.New(len(words) / api.PageWords)
	if e != api.OK || a.Store(0, words...) != api.OK {
		t.Fatalf("an arena of %d words: %v", len(words), e)
	}
	return a
}

// filled are words, none of which is 0, or a number of an arena or a table.
func filled(n int) []uint64 {
	l := make([]uint64, n)
	r := rule(3)
	for at := range l {
		l[at] = r.next() | 1<<50
	}
	return l
}

// same asks whether an arena's words are these.
func same(t *testing.T, a *arena.Arena, words []uint64, what ...any) {
	t.Helper()
	got, e := a.Row(0, a.Words())
	if e != api.OK || len(got) != len(words) {
		t.Fatalf("%v: %d words, %v", what, len(got), e)
	}
	for at, w := range words {
		if got[at] != w {
			t.Fatalf("P14.2, P0.3: %v: the word at %d is %x, not %x", what, at, got[at], w)
		}
	}
}

// push is what Push should answer, and lays the frame in the words that the arena is to have.
func push(words []uint64, l []int, lo, sp, f, link int) (int, api.Errno) {
	n := slots(l, f)
	if n == -1 || link < -1 || link >= len(words) {
		return 0, api.ErrArg
	}
	// From lo to sp are words only if both stand in the arena, lo not behind sp.
	if lo < 0 || sp > len(words) || sp < 0 || lo > sp || sp-lo < 2+n {
		return 0, api.ErrRange
	}
	at := sp - 2 - n
	words[at], words[at+1] = 0, uint64(f)+1
	if link >= 0 {
		words[at] = uint64(link) + 1
	}
	for i := range n {
		words[at+2+i] = 0
	}
	return at, api.OK
}

// doPush pushes to both, and holds what is answered, and all words.
func doPush(t *testing.T, a *arena.Arena, x *fns.Table, words []uint64, l []int, lo, sp, f, link int) (int, api.Errno) {
	t.Helper()
	got, e := frame.Push(a, x, lo, sp, f, link)
	if at, want := push(words, l, lo, sp, f, link); got != at || e != want {
		t.Fatalf("P14.1: Push(%d, %d, %d, %d) = %d, %v, not %d, %v", lo, sp, f, link, got, e, at, want)
	}
	same(t, a, words, "Push", lo, sp, f, link)
	return got, e
}

// read is what Read should answer.
func read(words []uint64, l []int, at int) (api.Frame, api.Errno) {
	if at < 0 || at > len(words)-2 {
		return api.Frame{}, api.ErrRange
	}
	link, fn := words[at], words[at+1]
	if fn == 0 || fn > uint64(len(l)) || link > uint64(len(words)) || at+2+l[fn-1] > len(words) {
		return api.Frame{}, api.ErrState
	}
	x := api.Frame{At: at, Fn: int(fn) - 1, Link: -1}
	if link > 0 {
		x.Link = int(link) - 1
	}
	return x, api.OK
}

// holdRead holds what Read answers at an address.
func holdRead(t *testing.T, a *arena.Arena, x *fns.Table, words []uint64, l []int, at int) {
	t.Helper()
	got, e := frame.Read(a, x, at)
	if y, want := read(words, l, at); got != y || e != want {
		head := words[max(min(at, len(words)), 0):max(min(at, len(words)-2)+2, 0)]
		t.Fatalf("P14.1: Read(%d) of %x = %v, %v, not %v, %v", at, head, got, e, y, want)
	}
}

// links is what Links should answer, and writes the words that the arena is to have.
func links(words []uint64, l []api.Frame) api.Errno {
	for _, x := range l {
		if x.At < 0 || x.At >= len(words) {
			return api.ErrRange
		}
	}
	for _, x := range l {
		words[x.At] = 0
		if x.Link >= 0 {
			words[x.At] = uint64(x.Link) + 1
		}
	}
	return api.OK
}

// doLinks lets both have these links, and holds what is answered, and all words.
func doLinks(t *testing.T, a *arena.Arena, words []uint64, l ...api.Frame) {
	t.Helper()
	kept := slices.Clone(l)
	got := frame.Links(a, l...)
	if want := links(words, l); got != want {
		t.Fatalf("P14.1: Links(%v) = %v, not %v", l, got, want)
	}
	if !slices.Equal(l, kept) {
		t.Fatalf("P0.4: Links makes %v of %v", l, kept)
	}
	same(t, a, words, "Links", l)
}

// TestExample is the chapter's.
func TestExample(t *testing.T) {
	a, x := made(t, make([]uint64, size)), table(t, 3)
	if at, e := frame.Push(a, x, 0, 64, 0, -1); at != 59 || e != api.OK {
		t.Errorf("P14.1: Push of 3 slots with sp 64: %d, %v", at, e)
	}
	if at, e := frame.Push(a, x, 48, 59, 0, 59); at != 54 || e != api.OK {
		t.Errorf("P14.1: Push of 3 slots with sp 59: %d, %v", at, e)
	}
	l, _ := a.Row(53, 12)
	if !slices.Equal(l, []uint64{0, 60, 1, 0, 0, 0, 0, 1, 0, 0, 0, 0}) {
		t.Errorf("P14.1: two frames of 3 slots: %d", l)
	}
	if y, e := frame.Read(a, x, 54); e != api.OK || y != (api.Frame{At: 54, Fn: 0, Link: 59}) {
		t.Errorf("P14.2: Read(54) = %v, %v", y, e)
	}
	if y, e := frame.Read(a, x, 59); e != api.OK || y != (api.Frame{At: 59, Fn: 0, Link: -1}) {
		t.Errorf("P14.2: Read(59) = %v, %v", y, e)
	}
}

func TestPushOfWrong(t *testing.T) {
	x, words := table(t, sizes()...), filled(size)
	a := made(t, words)
	for _, c := range []struct {
		lo, sp, f, link int
		want            api.Errno
	}{
		{0, 64, -1, -1, api.ErrArg}, {0, 64, 8, -1, api.ErrArg}, {0, 64, math.MaxInt, -1, api.ErrArg}, {0, 64, math.MinInt, -1, api.ErrArg},
		{0, 64, 0, -2, api.ErrArg}, {0, 64, 0, math.MinInt, api.ErrArg}, {0, 64, 0, 256, api.ErrArg}, {0, 64, 0, 257, api.ErrArg}, {0, 64, 0, math.MaxInt, api.ErrArg},
		{-1, 257, 8, 0, api.ErrArg}, {-1, 257, 0, 256, api.ErrArg}, {64, 64, -1, 0, api.ErrArg}, {64, 64, 0, -2, api.ErrArg}, {0, 256, 7, 256, api.ErrArg},
		{-1, 64, 0, -1, api.ErrRange}, {math.MinInt, 64, 0, -1, api.ErrRange}, {-64, -4, 1, -1, api.ErrRange}, {-6, -1, 0, -1, api.ErrRange}, {-1, 4, 0, -1, api.ErrRange},
		{0, 257, 0, -1, api.ErrRange}, {0, math.MaxInt, 0, -1, api.ErrRange}, {250, 257, 0, -1, api.ErrRange}, {math.MaxInt - 9, math.MaxInt, 0, -1, api.ErrRange},
		{60, 64, 0, -1, api.ErrRange}, {63, 64, 1, -1, api.ErrRange}, {64, 64, 1, -1, api.ErrRange}, {65, 64, 1, -1, api.ErrRange}, {200, 64, 0, -1, api.ErrRange},
		{1, math.MinInt, 0, -1, api.ErrRange}, {5, math.MinInt, 1, -1, api.ErrRange}, {math.MaxInt, math.MinInt, 0, -1, api.ErrRange}, {math.MaxInt, 64, 0, -1, api.ErrRange},
		{0, math.MinInt, 0, -1, api.ErrRange}, {0, math.MinInt + 4, 0, -1, api.ErrRange}, {0, -1, 1, -1, api.ErrRange}, {math.MinInt, math.MinInt, 0, -1, api.ErrRange},
		{0, 0, 1, -1, api.ErrRange}, {0, 1, 1, -1, api.ErrRange}, {0, 4, 0, -1, api.ErrRange}, {0, 256, 6, -1, api.ErrRange}, {1, 256, 5, -1, api.ErrRange}, {0, 256, 7, -1, api.ErrRange},
	} {
		if at, e := frame.Push(a, x, c.lo, c.sp, c.f, c.link); at != 0 || e != c.want {
			t.Errorf("P14.1: Push(%d, %d, %d, %d) = %d, %v, not %v", c.lo, c.sp, c.f, c.link, at, e, c.want)
		}
		same(t, a, words, "a Push that was refused", c)
	}
}

func TestPushAtEdges(t *testing.T) {
	x := table(t, sizes()...)
	for _, c := range []struct{ lo, sp, f, link, want int }{
		{0, 2, 1, -1, 0}, {0, 5, 0, -1, 0}, {0, 5, 0, 5, 0}, {59, 64, 0, 64, 59}, {0, 64, 0, 0, 59}, {62, 64, 1, 64, 62}, {251, 256, 0, -1, 251}, {254, 256, 1, -1, 254},
		{0, 256, 5, -1, 0}, {0, 256, 4, -1, 2}, {2, 256, 4, -1, 2}, {0, 256, 1, 255, 254}, {0, 256, 1, 254, 254}, {16, 32, 3, 32, 16}, {0, 3, 2, 255, 0},
	} {
		words := filled(size)
		a := made(t, words)
		if at, e := doPush(t, a, x, words, sizes(), c.lo, c.sp, c.f, c.link); at != c.want || e != api.OK {
			t.Errorf("P14.1: Push(%d, %d, %d, %d) = %d, %v, not %d", c.lo, c.sp, c.f, c.link, at, e, c.want)
		}
	}
}

// TestPushOfEachRow has a Push for each lo, sp, function and link of some.
func TestPushOfEachRow(t *testing.T) {
	x, words := table(t, sizes()...), filled(size)
	a := made(t, words)
	for _, lo := range few() {
		for _, sp := range few() {
			for _, f := range []int{math.MinInt, -1, 0, 1, 2, 4, 5, 6, 7, 8, math.MaxInt} {
				for _, link := range []int{math.MinInt, -2, -1, 0, 17, 255, 256, math.MaxInt} {
					doPush(t, a, x, words, sizes(), lo, sp, f, link)
				}
			}
		}
	}
}

// TestPushOfEachNumber has one number of a Push of any kind, the others being right.
func TestPushOfEachNumber(t *testing.T) {
	x, words := table(t, sizes()...), filled(size)
	a := made(t, words)
	for _, n := range numbers() {
		doPush(t, a, x, words, sizes(), n, 64, 0, -1)
		doPush(t, a, x, words, sizes(), 0, n, 0, -1)
		doPush(t, a, x, words, sizes(), n, n, 1, 3)
		doPush(t, a, x, words, sizes(), 0, 64, n, -1)
		doPush(t, a, x, words, sizes(), 0, 64, 0, n)
	}
}

// TestPushOfEachSize has a frame of each number of slots, with as much room as it takes, and with a word less.
func TestPushOfEachSize(t *testing.T) {
	for _, n := range []int{0, 1, 2, 3, 61, 62, 63, 64, 127, 128, 500, 998, 999, 1000} {
		x := table(t, 7, n)
		words := filled(20 * api.PageWords)
		a := made(t, words)
		for _, lo := range []int{0, 1, 63, 64, len(words) - n - 2} {
			if _, e := doPush(t, a, x, words, []int{7, n}, lo, lo+n+1, 1, 9); e != api.ErrRange {
				t.Errorf("P14.1: Push of %d slots, with room for a word less: %v", n, e)
			}
			if at, e := doPush(t, a, x, words, []int{7, n}, lo, lo+n+2, 1, 9); at != lo || e != api.OK {
				t.Errorf("P14.1: Push of %d slots, with room for it: %d, %v, not %d", n, at, e, lo)
			}
			holdRead(t, a, x, words, []int{7, n}, lo)
		}
	}
}

// TestPushOfEachFn has a table of as many functions as may be, and an arena of as many words.
func TestPushOfEachFn(t *testing.T) {
	l := make([]int, api.MaxFns)
	for f := range l {
		l[f] = f * 7 % 30
	}
	x, words := table(t, l...), filled(api.MaxPages*api.PageWords)
	a := made(t, words)
	sp, link := len(words), -1
	for f := -2; f < len(l)+3; f++ {
		if at, e := doPush(t, a, x, words, l, 0, sp, f, link); e == api.OK {
			holdRead(t, a, x, words, l, at)
			sp, link = at, at
		}
	}
	for at := sp - 2; at < len(words)+3; at++ {
		holdRead(t, a, x, words, l, at)
	}
	doPush(t, a, x, words, l, 0, 40, 99, len(words)-1)
	doPush(t, a, x, words, l, 0, 40, 99, len(words))
}

// TestNilArena has no words: a frame has no room in it, whatever it is.
func TestNilArena(t *testing.T) {
	x := table(t, sizes()...)
	for _, n := range numbers() {
		doPush(t, nil, x, nil, sizes(), n, n, 1, -1)
		doPush(t, nil, x, nil, sizes(), 0, n, 1, -1)
		doPush(t, nil, x, nil, sizes(), n, 0, 1, -1)
		doPush(t, nil, x, nil, sizes(), 0, 0, 1, n)
		doPush(t, nil, x, nil, sizes(), 0, 0, n, -1)
		if y, e := frame.Read(nil, x, n); e != api.ErrRange || y != (api.Frame{}) {
			t.Errorf("P14.1: Read(%d) of no arena: %v, %v", n, y, e)
		}
		if e := frame.Links(nil, api.Frame{At: n}); e != api.ErrRange {
			t.Errorf("P14.1: Links of a frame at %d of no arena: %v", n, e)
		}
	}
	if e := frame.Links(nil); e != api.OK {
		t.Errorf("P14.1: Links of no frames of no arena: %v", e)
	}
}

// TestNilTable has no functions.
func TestNilTable(t *testing.T) {
	words := filled(size)
	words[9], words[10] = 0, 1
	a := made(t, words)
	for _, n := range numbers() {
		doPush(t, a, nil, words, nil, 0, 64, n, -1)
		doPush(t, a, nil, words, nil, n, n, 0, -1)
		doPush(t, nil, nil, nil, nil, n, n, n, n)
		holdRead(t, a, nil, words, nil, n)
		if e := frame.End(nil, api.Frame{At: 40, Fn: n}); e != -1 {
			t.Errorf("P14.1: End of the function %d of no table: %d", n, e)
		}
		if at, e := frame.Slot(nil, api.Frame{At: 40, Fn: n}, 0); at != 0 || e != api.ErrRange {
			t.Errorf("P14.1: a slot of the function %d of no table: %d, %v", n, at, e)
		}
	}
	if y, e := frame.Read(a, nil, 9); e != api.ErrState || y != (api.Frame{}) {
		t.Errorf("P14.1: Read of no table: %v, %v", y, e)
	}
	same(t, a, words, "calls of no table")
}

// TestReadOfEachHead has two words of some numbers, at some addresses.
func TestReadOfEachHead(t *testing.T) {
	x := table(t, sizes()...)
	words := []uint64{0, 1, 2, 3, 7, 8, 9, 10, 100, 255, 256, 257, 258, 1 << 16, 1 << 31, 1 << 32, 1<<32 + 1, 1<<32 + 8, 1 << 62, 1<<63 - 1, 1 << 63, 1<<63 + 1, 1<<63 + 8, math.MaxUint64 - 1, math.MaxUint64}
	for _, link := range words {
		for _, fn := range words {
			for _, at := range []int{0, 1, 2, 30, 239, 240, 241, 250, 251, 252, 253, 254} {
				l := filled(size)
				l[at], l[at+1] = link, fn
				a := made(t, l)
				holdRead(t, a, x, l, sizes(), at)
				same(t, a, l, "Read", at)
			}
		}
	}
}

func TestReadTable(t *testing.T) {
	x := table(t, 3, 0)
	words := filled(size)
	copy(words, []uint64{0, 1, 2, 1, 256, 2, 257, 2, 1, 0, 5, 3})
	copy(words[250:], []uint64{1, 1, 2, 2, 2, 1})
	a := made(t, words)
	for _, c := range []struct {
		at   int
		y    api.Frame
		want api.Errno
	}{
		{0, api.Frame{At: 0, Fn: 0, Link: -1}, api.OK}, {1, api.Frame{At: 1, Fn: 1, Link: 0}, api.OK}, {2, api.Frame{At: 2, Fn: 0, Link: 1}, api.OK}, {4, api.Frame{At: 4, Fn: 1, Link: 255}, api.OK},
		{6, api.Frame{}, api.ErrState}, {8, api.Frame{}, api.ErrState}, {10, api.Frame{}, api.ErrState}, {20, api.Frame{}, api.ErrState}, {3, api.Frame{}, api.ErrState},
		{250, api.Frame{At: 250, Fn: 0, Link: 0}, api.OK}, {251, api.Frame{At: 251, Fn: 1, Link: 0}, api.OK}, {252, api.Frame{At: 252, Fn: 1, Link: 1}, api.OK}, {254, api.Frame{}, api.ErrState},
		{255, api.Frame{}, api.ErrRange}, {256, api.Frame{}, api.ErrRange}, {-1, api.Frame{}, api.ErrRange}, {-2, api.Frame{}, api.ErrRange}, {math.MaxInt, api.Frame{}, api.ErrRange}, {math.MaxInt - 1, api.Frame{}, api.ErrRange}, {math.MinInt, api.Frame{}, api.ErrRange},
	} {
		if y, e := frame.Read(a, x, c.at); y != c.y || e != c.want {
			t.Errorf("P14.1: Read(%d) = %v, %v, not %v, %v", c.at, y, e, c.y, c.want)
		}
	}
	for _, at := range numbers() {
		holdRead(t, a, x, words, []int{3, 0}, at)
	}
	same(t, a, words, "Read")
}

// TestReadOfSmallWords has words of which many are heads, and reads at each address.
func TestReadOfSmallWords(t *testing.T) {
	r := rule(21)
	l := []int{3, 0, 60}
	x := table(t, l...)
	for range 200 {
		words := make([]uint64, size)
		for at := range words {
			words[at] = r.next() % 5
			if r.below(4) == 0 {
				words[at] = 250 + r.next()%10
			}
		}
		a := made(t, words)
		for at := -3; at < size+3; at++ {
			holdRead(t, a, x, words, l, at)
		}
		same(t, a, words, "Read")
	}
}

func TestEndOfEach(t *testing.T) {
	x := table(t, sizes()...)
	for f := range sizes() {
		for _, at := range []int{-7, -1, 0, 1, 59, 254, 256, 1 << 16, 1 << 40} {
			for _, link := range []int{math.MinInt, -1, 0, 300, math.MaxInt} {
				if got := frame.End(x, api.Frame{At: at, Fn: f, Link: link}); got != at+2+sizes()[f] {
					t.Errorf("P14.1: End of a frame of %d slots at %d: %d", sizes()[f], at, got)
				}
			}
		}
	}
	for _, f := range numbers() {
		if f >= 0 && f < len(sizes()) {
			continue
		}
		for _, at := range numbers() {
			if got := frame.End(x, api.Frame{At: at, Fn: f}); got != -1 {
				t.Errorf("P14.1: End of a frame at %d, of the function %d of 8: %d", at, f, got)
			}
		}
	}
}

func TestSlotOfEach(t *testing.T) {
	x := table(t, sizes()...)
	for _, f := range append(numbers(), 3, 4, 5, 6, 7, 8, 9) {
		n := slots(sizes(), f)
		asked := append(numbers(), n-1, n, n+1)
		for i := range min(max(n, 0), 30) {
			asked = append(asked, i)
		}
		for _, i := range asked {
			for _, at := range []int{-9, 0, 59, 254, 1 << 40} {
				got, e := frame.Slot(x, api.Frame{At: at, Fn: f, Link: i}, i)
				if i >= 0 && i < n {
					if got != at+2+i || e != api.OK {
						t.Errorf("P14.1: the slot %d of %d at %d: %d, %v", i, n, at, got, e)
					}
				} else if got != 0 || e != api.ErrRange {
					t.Errorf("P14.1: the slot %d of %d at %d: %d, %v", i, n, at, got, e)
				}
			}
		}
	}
}

// TestReckonedAtAllAddresses asks of addresses whose sums no int has: the calls answer, whatever it is.
func TestReckonedAtAllAddresses(t *testing.T) {
	x := table(t, sizes()...)
	for _, at := range numbers() {
		for f := -1; f <= len(sizes()); f++ {
			for _, i := range numbers() {
				frame.End(x, api.Frame{At: at, Fn: f, Link: i})
				_, e := frame.Slot(x, api.Frame{At: at, Fn: f, Link: i}, i)
				if has := i >= 0 && i < slots(sizes(), f); has != (e == api.OK) || !has && e != api.ErrRange {
					t.Errorf("P0.1: the slot %d of the function %d at %d: %v", i, f, at, e)
				}
			}
		}
	}
}

func TestLinksTable(t *testing.T) {
	words := filled(size)
	a := made(t, words)
	for _, l := range [][]api.Frame{
		nil, {}, {{At: 0, Link: 5}}, {{At: 255, Link: 5}}, {{At: 255, Link: -1}}, {{At: 7, Link: -2}}, {{At: 7, Link: math.MinInt}}, {{At: 7, Link: 0}},
		{{At: 9, Link: 255}}, {{At: 9, Link: 256}}, {{At: 9, Link: 1 << 40}}, {{At: 9, Link: math.MaxInt - 1}}, {{At: 9, Link: math.MaxInt}},
		{{At: 9, Fn: -1, Link: 1}, {At: 10, Fn: 5000, Link: 2}, {At: 11, Fn: math.MinInt, Link: 3}}, {{At: 9, Link: 4}, {At: 9, Link: 6}}, {{At: 9, Link: 6}, {At: 9, Link: -6}, {At: 8, Link: 9}},
		{{At: 256, Link: 5}}, {{At: -1, Link: 5}}, {{At: math.MinInt}}, {{At: math.MaxInt}}, {{At: 3, Link: 33}, {At: 256, Link: 5}}, {{At: -1, Link: 5}, {At: 3, Link: 33}},
		{{At: 3, Link: 33}, {At: 4, Link: 34}, {At: 1 << 32, Link: 5}, {At: 5, Link: 35}}, {{At: 3, Link: -1}, {At: -256}},
	} {
		doLinks(t, a, words, l...)
	}
	if w, _ := a.Load(9); w != 0 {
		t.Errorf("P14.1: the link at 9 is %x, not that of the frame that is named last", w)
	}
}

// TestLinksOfEachNumber has one frame wrong, at each place of a list, for each address that isn't there.
func TestLinksOfEachNumber(t *testing.T) {
	words := filled(size)
	a := made(t, words)
	for _, n := range numbers() {
		doLinks(t, a, words, api.Frame{At: 77, Link: n})
		doLinks(t, a, words, api.Frame{At: n, Link: 77})
		for i := range 4 {
			l := []api.Frame{{At: 3, Link: 1 + i}, {At: 20, Link: 2 + i}, {At: 21, Link: 3 + i}}
			doLinks(t, a, words, slices.Insert(l, i, api.Frame{At: n, Link: n})...)
		}
	}
}

// TestLinksOfMany has a link at each address, in any order.
func TestLinksOfMany(t *testing.T) {
	r := rule(8)
	words := filled(size)
	a := made(t, words)
	for range 200 {
		var l []api.Frame
		for range r.below(600) {
			l = append(l, api.Frame{At: r.below(size), Fn: r.below(9) - 3, Link: r.below(900) - 300})
		}
		if r.below(3) == 0 {
			l = append(l, api.Frame{At: size + r.below(2)})
		}
		doLinks(t, a, words, l...)
	}
}

// TestLinksAreRead has the link of a frame that was pushed, and none of its other words, changed.
func TestLinksAreRead(t *testing.T) {
	x, words := table(t, sizes()...), filled(size)
	a := made(t, words)
	at, _ := doPush(t, a, x, words, sizes(), 0, 64, 3, 70)
	for link := -3; link < size+3; link++ {
		doLinks(t, a, words, api.Frame{At: at, Fn: 1, Link: link})
		y, e := frame.Read(a, x, at)
		if link >= size {
			if e != api.ErrState || y != (api.Frame{}) {
				t.Errorf("P14.1: a frame whose link is %d: %v, %v", link, y, e)
			}
		} else if e != api.OK || y != (api.Frame{At: at, Fn: 3, Link: max(link, -1)}) {
			t.Errorf("P14.1: a frame whose link is %d: %v, %v", link, y, e)
		}
	}
}

// TestPushedIsRead lays frames one ahead of the other, in several stacks, and reads all of them behind each Push.
func TestPushedIsRead(t *testing.T) {
	r := rule(14)
	for range 40 {
		words := filled(size)
		a, l := made(t, words), []int{r.below(4), r.below(20), 0, 40}
		x := table(t, l...)
		var frames []api.Frame
		sp, last := []int{64, 128, 256}, []int{-1, -1, -1}
		for range 60 {
			s, f := r.below(3), r.below(5)
			lo := s * 64
			at, e := doPush(t, a, x, words, l, lo, sp[s], f, last[s])
			if e == api.OK {
				frames = append(frames, api.Frame{At: at, Fn: f, Link: last[s]})
				if frame.End(x, frames[len(frames)-1]) != sp[s] || at < lo {
					t.Fatalf("P14.1: a frame at %d, from %d to %d, doesn't end there", at, lo, sp[s])
				}
				sp[s], last[s] = at, at
			}
			for _, y := range frames {
				if got, e := frame.Read(a, x, y.At); got != y || e != api.OK {
					t.Fatalf("P14.2: Read(%d) = %v, %v, not %v", y.At, got, e, y)
				}
			}
		}
	}
}

// TestSlotsAreWritten stores at the address of each slot of a frame: it stays the frame that it is, and no other word is met.
func TestSlotsAreWritten(t *testing.T) {
	x, words := table(t, sizes()...), filled(size)
	a := made(t, words)
	at, _ := doPush(t, a, x, words, sizes(), 0, 100, 3, 200)
	y, _ := frame.Read(a, x, at)
	for i := range 14 {
		slot, e := frame.Slot(x, y, i)
		if e != api.OK || slot != 86+i {
			t.Fatalf("P14.1: the slot %d is at %d, %v", i, slot, e)
		}
		words[slot] = uint64(1000 + i)
		a.Store(slot, uint64(1000+i))
		if got, e := frame.Read(a, x, at); got != y || e != api.OK {
			t.Errorf("P14.2: Read(%d) = %v, %v, not %v", at, got, e, y)
		}
	}
	same(t, a, words, "slots")
	doPush(t, a, x, words, sizes(), 0, 100, 3, -1)
}

// TestOverElderWords pushes again where other frames stood: nothing of them is left.
func TestOverElderWords(t *testing.T) {
	r := rule(41)
	x, words := table(t, sizes()...), filled(size)
	a := made(t, words)
	for range 500 {
		lo, sp := r.below(size), r.below(size+3)
		doPush(t, a, x, words, sizes(), lo-3, sp, r.below(10)-1, r.below(size+4)-2)
		at := r.below(size)
		words[at] = r.next() % 300
		a.Store(at, words[at])
		holdRead(t, a, x, words, sizes(), r.below(size))
	}
}

// TestHandedInStays hands in a piece of a longer list, and asks the table ahead of all calls and behind them.
func TestHandedInStays(t *testing.T) {
	x, words := table(t, 3, 9), filled(size)
	a, before := made(t, words), x.Fns()
	room := []api.Frame{{At: 5, Fn: 1, Link: -9}, {At: 6, Link: 70}, {At: 900, Fn: 8, Link: -4}, {At: 7, Link: 3}}
	kept := slices.Clone(room)
	for n := range len(room) + 1 {
		doLinks(t, a, words, room[:n]...)
		if !slices.Equal(room, kept) {
			t.Fatalf("P0.4: Links makes %v of %v", room, kept)
		}
		for i := range room {
			room[i] = api.Frame{At: 100, Link: 1}
		}
		same(t, a, words, "a list that was written into")
		copy(room, kept)
	}
	doPush(t, a, x, words, []int{3, 9}, 0, 64, 1, -1)
	if !slices.EqualFunc(before, x.Fns(), func(f, g api.Fn) bool { return f.Size == g.Size && slices.Equal(f.Ptrs, g.Ptrs) }) {
		t.Errorf("P0.4: the functions are %v, not %v", x.Fns(), before)
	}
}

// TestArenasApart does the same in two arenas, other calls in between: nothing of one hangs on the other.
func TestArenasApart(t *testing.T) {
	x, y := table(t, 3, 0), table(t, 9)
	words, others := filled(size), make([]uint64, 2*size)
	a, b := made(t, words), made(t, others)
	for i := range 20 {
		at, _ := doPush(t, a, x, words, []int{3, 0}, 0, 100+i, i%2, i-1)
		same(t, b, others, "another arena")
		doPush(t, b, y, others, []int{9}, 0, 400-i, 0, 300)
		doLinks(t, b, others, api.Frame{At: at, Link: 450})
		same(t, a, words, "another arena")
		holdRead(t, a, x, words, []int{3, 0}, at)
		holdRead(t, b, y, others, []int{9}, at)
	}
}
