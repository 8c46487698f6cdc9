package slots_test

import (
	"math"
	"slices"
	"testing"

	"shoring/api"
	"shoring/arena"
	"shoring/fns"
	"shoring/frame"
	"shoring/slots"
)

// The signatures are exact: another one doesn't compile here.
var (
	_ func(*fns.Table, []api.Frame, int, int) (int, api.Errno)                   = slots.Address
	_ func(*fns.Table, []api.Frame, int) (int, int, bool)                        = slots.Find
	_ func(*arena.Arena, *fns.Table, []api.Frame, int, int) (api.Val, api.Errno) = slots.Get
	_ func(*arena.Arena, *fns.Table, []api.Frame, int, int, api.Val) api.Errno   = slots.Put
	_ func(*arena.Arena, *fns.Table, []api.Frame) ([][]api.Val, api.Errno)       = slots.All
	_ func(...api.Val) bool                                                      = slots.May
)

// size is how many words an arena of 4 pages has.
const size = 256

// most is the greatest At of a frame that has slots.
const most = 1 << 40

// rule makes numbers one behind the other, that hang on the one it starts with alone.
type rule uint64

// next is the rule's next number.
func (r *rule) next() uint64 {
	*r = *r*6364136223846793005 + 1442695040888963407
	x := uint64(*r)
	return x ^ x>>29
}

// below is a number from 0 to n-1.
func (r *rule) below(n int) int { return int(r.next() >> 1 % uint64(n)) }

// numbers are those around the ends of an arena of 256 words, slots, what is reckoned with, and both ends of an int.
func numbers() []int {
	l := []int{math.MinInt, math.MinInt + 1, math.MinInt + 2, math.MinInt + 3, math.MinInt + 64, -1 << 62, -1 << 40, -1 << 32, -1 << 31, -257, -256, -64, -5, -4, -3}
	for _, n := range []int{0, 5, 16, 57, 62, 251, 256, 1002, 1 << 31, 1 << 32, 1 << 40, 1 << 62} {
		for d := -2; d <= 3; d++ {
			l = append(l, n+d)
		}
	}
	return append(l, math.MaxInt-1002, math.MaxInt-5, math.MaxInt-3, math.MaxInt-2, math.MaxInt-1, math.MaxInt)
}

// fn is a function as it is told: for each of its slots whether it is a pointer slot.
type fn []bool

// some are the functions that most tests ask: of no slots, of a scalar, of a pointer, and of both.
func some() []fn {
	return []fn{{false, true}, {true, false, true}, {}, {true}, {false}}
}

// table is one of these functions.
func table(t *testing.T, l ...fn) *fns.Table {
	t.Helper()
	var f []api.Fn
	for _, ptrs := range l {
		x := api.Fn{Size: len(ptrs), Ptrs: make([]uint64, (len(ptrs)+63)/64)}
		for slot, ptr := range ptrs {
			if ptr {
				x.Ptrs[slot/64] |= 1 << (slot % 64)
			}
		}
		f = append(f, x)
	}
	x, e := fns.New(f...)
	if e != api.OK {
		t.Fatalf("a table of %v: %v", l, e)
	}
	return x
}

// made is an arena of these words, one at each of its addresses.
func made(t *testing.T, words []uint64) *arena.Arena {
	t.Helper()
	a, e := arena.New(len(words) / api.PageWords)
	if e != api.OK || a.Store(0, words...) != api.OK {
		t.Fatalf("an arena of %d words: %v", len(words), e)
	}
	return a
}

// filled are words, none of which is 0, or an address.
func filled(n int) []uint64 {
	l := make([]uint64, n)
	r := rule(3)
	for at := range l {
		l[at] = r.next() | 1<<50
	}
	return l
}

// same asks whether an arena's words are these.
func same(t *testing.T, a *arena.Arena, words []uint64, what ...any) {
	t.Helper()
	got, e := a.Row(0, a.Words())
	if e != api.OK || len(got) != len(words) {
		t.Fatalf("%v: %d words, %v", what, len(got), e)
	}
	for at, w := range words {
		if got[at] != w {
			t.Fatalf("P16.1, P0.3: %v: the word at %d is %x, not %x", what, at, got[at], w)
		}
	}
}

// ref refers to a slot, scalar has these bits.
func ref(depth, slot int) api.Val { return api.Val{Kind: 2, Depth: depth, Slot: slot} }
func scalar(bits uint64) api.Val  { return api.Val{Kind: 1, Bits: bits} }

// values are those that may be, and those that may not, with numbers around those of some frames.
func values() []api.Val {
	l := []api.Val{{}, scalar(0), scalar(1), scalar(62), scalar(api.NaN), scalar(math.MaxUint64), {Bits: 1}, {Depth: 1}, {Slot: 1}, {Slot: -1}, {Depth: -1}, {Kind: 3}, {Kind: 255}, {Kind: 4, Bits: 9}, {Kind: 1, Depth: 1}, {Kind: 1, Slot: 1}, {Kind: 1, Bits: 5, Slot: -1}, {Kind: 1, Bits: 5, Depth: -1}, {Kind: 2, Bits: 1}, {Kind: 2, Bits: math.MaxUint64, Depth: 1}}
	for _, depth := range []int{math.MinInt, -1, 0, 1, 2, 3, 4, 5, 6, 1 << 32, math.MaxInt} {
		for _, slot := range []int{math.MinInt, -1, 0, 1, 2, 3, 1 << 32, math.MaxInt} {
			l = append(l, ref(depth, slot))
		}
	}
	return l
}

// may is what May should answer of one value.
func may(v api.Val) bool {
	switch v.Kind {
	case 0:
		return v.Bits == 0 && v.Depth == 0 && v.Slot == 0
	case 1:
		return v.Depth == 0 && v.Slot == 0
	case 2:
		return v.Bits == 0 && v.Depth >= 0 && v.Slot >= 0
	}
	return false
}

// place is a slot, as it is told, and where it stands.
type place struct {
	depth, slot, at int
	ptr             bool
}

// places are all slots of frames, frame by frame.
func places(f []fn, l []api.Frame) []place {
	var all []place
	for depth, x := range l {
		if x.Fn < 0 || x.Fn >= len(f) || x.At < 0 || x.At > most {
			continue
		}
		for slot, ptr := range f[x.Fn] {
			all = append(all, place{depth, slot, x.At + 2 + slot, ptr})
		}
	}
	return all
}

// those is the first of these slots for which something holds, and whether there is one.
func those(l []place, holds func(p place) bool) (place, bool) {
	i := slices.IndexFunc(l, holds)
	if i < 0 {
		return place{}, false
	}
	return l[i], true
}

// told is the slot that is told by a depth and a number.
func told(l []place, depth, slot int) (place, bool) {
	return those(l, func(p place) bool { return p.depth == depth && p.slot == slot })
}

// get is what Get should answer, told from the words.
func get(words []uint64, f []fn, l []api.Frame, depth, slot int) (api.Val, api.Errno) {
	all := places(f, l)
	p, there := told(all, depth, slot)
	if !there || p.at >= len(words) {
		return api.Val{}, api.ErrRange
	}
	w := words[p.at]
	if !p.ptr {
		return scalar(w), api.OK
	}
	if w == 0 {
		return api.Val{}, api.OK
	}
	to, there := those(all, func(p place) bool { return uint64(p.at) == w && p.depth <= depth })
	if !there {
		return api.Val{}, api.ErrState
	}
	return ref(to.depth, to.slot), api.OK
}

// put is what Put should answer, and writes the word that the arena is to have.
func put(words []uint64, f []fn, l []api.Frame, depth, slot int, v api.Val) api.Errno {
	all := places(f, l)
	p, there := told(all, depth, slot)
	if !there || p.at >= len(words) {
		return api.ErrRange
	}
	if !may(v) {
		return api.ErrArg
	}
	if p.ptr && v.Kind == 1 || !p.ptr && v.Kind != 1 {
		return api.ErrKind
	}
	if v.Kind != 2 {
		words[p.at] = v.Bits
		return api.OK
	}
	to, there := told(all, v.Depth, v.Slot)
	if !there {
		return api.ErrRange
	}
	if v.Depth > depth {
		return api.ErrDepth
	}
	words[p.at] = uint64(to.at)
	return api.OK
}

// everything is what All should answer.
func everything(words []uint64, f []fn, l []api.Frame) ([][]api.Val, api.Errno) {
	all := make([][]api.Val, len(l))
	for _, p := range places(f, l) {
		v, e := get(words, f, l, p.depth, p.slot)
		if e != api.OK {
			return nil, e
		}
		all[p.depth] = append(all[p.depth], v)
	}
	return all, api.OK
}

// holdAddress holds what Address answers.
func holdAddress(t *testing.T, x *fns.Table, f []fn, l []api.Frame, depth, slot int) {
	t.Helper()
	at, e := slots.Address(x, l, depth, slot)
	p, there := told(places(f, l), depth, slot)
	want := api.ErrRange
	if there {
		want = api.OK
	}
	if at != p.at || e != want {
		t.Fatalf("P16.1: Address(%v, %d, %d) = %d, %v, not %d, %v", l, depth, slot, at, e, p.at, want)
	}
}

// holdFind holds what Find answers.
func holdFind(t *testing.T, x *fns.Table, f []fn, l []api.Frame, at int) {
	t.Helper()
	depth, slot, found := slots.Find(x, l, at)
	p, there := those(places(f, l), func(p place) bool { return p.at == at })
	if depth != p.depth || slot != p.slot || found != there {
		t.Fatalf("P16.1: Find(%v, %d) = %d, %d, %v, not %d, %d, %v", l, at, depth, slot, found, p.depth, p.slot, there)
	}
}

// holdGet holds what Get answers.
func holdGet(t *testing.T, a *arena.Arena, x *fns.Table, words []uint64, f []fn, l []api.Frame, depth, slot int) api.Errno {
	t.Helper()
	v, e := slots.Get(a, x, l, depth, slot)
	want, errno := get(words, f, l, depth, slot)
	if v != want || e != errno {
		t.Fatalf("P16.1: Get(%v, %d, %d) = %v, %v, not %v, %v", l, depth, slot, v, e, want, errno)
	}
	return e
}

// holdPut holds what Put answers, and all words; both have what was put.
func holdPut(t *testing.T, a *arena.Arena, x *fns.Table, words []uint64, f []fn, l []api.Frame, depth, slot int, v api.Val) api.Errno {
	t.Helper()
	e := slots.Put(a, x, l, depth, slot, v)
	if want := put(words, f, l, depth, slot, v); e != want {
		t.Fatalf("P16.1: Put(%v, %d, %d, %v) = %v, not %v", l, depth, slot, v, e, want)
	}
	same(t, a, words, "Put", l, depth, slot, v)
	return e
}

// holdAll holds what All answers.
func holdAll(t *testing.T, a *arena.Arena, x *fns.Table, words []uint64, f []fn, l []api.Frame) api.Errno {
	t.Helper()
	got, e := slots.All(a, x, l)
	want, errno := everything(words, f, l)
	if e != errno || !slices.EqualFunc(got, want, slices.Equal) {
		t.Fatalf("P16.1: All(%v) = %v, %v, not %v, %v", l, got, e, want, errno)
	}
	return e
}

// hold holds what each call but Put answers of frames, and that none of them changes what is handed in, or a word.
func hold(t *testing.T, a *arena.Arena, x *fns.Table, words []uint64, f []fn, l []api.Frame) {
	t.Helper()
	kept := slices.Clone(l)
	for depth := -2; depth < len(l)+2; depth++ {
		for slot := -2; slot < 5; slot++ {
			holdAddress(t, x, f, l, depth, slot)
			holdGet(t, a, x, words, f, l, depth, slot)
		}
	}
	for at := -3; at < len(words)+8; at++ {
		holdFind(t, x, f, l, at)
	}
	holdAll(t, a, x, words, f, l)
	if !slices.Equal(l, kept) {
		t.Fatalf("P0.4: %v became %v", kept, l)
	}
	same(t, a, words, "asked of", l)
}

// five are frames one directly behind the other, the bottom one first.
func five() []api.Frame {
	return []api.Frame{{At: 60, Fn: 0, Link: -1}, {At: 55, Fn: 1, Link: 60}, {At: 53, Fn: 2, Link: 55}, {At: 48, Fn: 1, Link: 53}, {At: 45, Fn: 3, Link: 48}}
}

// TestExample is the chapter's.
func TestExample(t *testing.T) {
	x, l := table(t, fn{false, false, false}), []api.Frame{{At: 59, Fn: 0, Link: -1}}
	if at, e := slots.Address(x, l, 0, 0); at != 61 || e != api.OK {
		t.Errorf("P16.1: the address of the slot 0 of a frame at 59: %d, %v", at, e)
	}
}

func TestAddressTable(t *testing.T) {
	x := table(t, some()...)
	for _, c := range []struct {
		depth, slot, want int
		e                 api.Errno
	}{
		{0, 0, 62, api.OK}, {0, 1, 63, api.OK}, {1, 0, 57, api.OK}, {1, 1, 58, api.OK}, {1, 2, 59, api.OK}, {3, 0, 50, api.OK}, {3, 2, 52, api.OK}, {4, 0, 47, api.OK},
		{0, 2, 0, api.ErrRange}, {0, -1, 0, api.ErrRange}, {1, 3, 0, api.ErrRange}, {2, 0, 0, api.ErrRange}, {2, -1, 0, api.ErrRange}, {4, 1, 0, api.ErrRange}, {5, 0, 0, api.ErrRange}, {-1, 0, 0, api.ErrRange},
		{1, math.MaxInt, 0, api.ErrRange}, {1, math.MinInt, 0, api.ErrRange}, {math.MaxInt, 0, 0, api.ErrRange}, {math.MinInt, 0, 0, api.ErrRange}, {1, 1 << 32, 0, api.ErrRange}, {1 << 32, 0, 0, api.ErrRange},
	} {
		if at, e := slots.Address(x, five(), c.depth, c.slot); at != c.want || e != c.e {
			t.Errorf("P16.1: Address(%d, %d) = %d, %v, not %d, %v", c.depth, c.slot, at, e, c.want, c.e)
		}
	}
}

// TestOfEachNumber has one number of a call, or of a frame, of any kind.
func TestOfEachNumber(t *testing.T) {
	x, f, words := table(t, some()...), some(), filled(size)
	a := made(t, words)
	for _, n := range numbers() {
		for _, m := range numbers() {
			holdAddress(t, x, f, five(), n, m)
			holdGet(t, a, x, words, f, five(), n, m)
			one := []api.Frame{{At: n, Fn: 1, Link: m}, {At: 20, Fn: 0, Link: n}}
			holdFind(t, x, f, one, m)
			holdFind(t, x, f, []api.Frame{{At: n, Fn: m}}, 62)
			holdAddress(t, x, f, []api.Frame{{At: n, Fn: m}}, 0, 0)
			holdPut(t, a, x, words, f, five(), n, m, scalar(5))
			holdPut(t, a, x, words, f, five(), 4, 0, ref(n, m))
		}
		for slot := range 3 {
			one := []api.Frame{{At: n, Fn: 1, Link: n}}
			holdAddress(t, x, f, one, 0, slot)
			holdGet(t, a, x, words, f, one, 0, slot)
			holdPut(t, a, x, words, f, one, 0, slot, scalar(7))
			holdPut(t, a, x, words, f, one, 0, slot, ref(0, slot))
		}
		holdAll(t, a, x, words, f, []api.Frame{{At: n, Fn: 4}})
		holdAll(t, a, x, words, f, []api.Frame{{At: 60, Fn: n}})
	}
}

// TestAtEdges has frames at both ends of what is reckoned.
func TestAtEdges(t *testing.T) {
	x, f := table(t, some()...), some()
	for _, c := range []struct {
		x    api.Frame
		want int
		e    api.Errno
	}{
		{api.Frame{At: 0, Fn: 1}, 4, api.OK}, {api.Frame{At: most, Fn: 1}, most + 4, api.OK}, {api.Frame{At: most - 1, Fn: 1}, most + 3, api.OK}, {api.Frame{At: 251, Fn: 1}, 255, api.OK}, {api.Frame{At: 252, Fn: 1}, 256, api.OK},
		{api.Frame{At: -1, Fn: 1}, 0, api.ErrRange}, {api.Frame{At: most + 1, Fn: 1}, 0, api.ErrRange}, {api.Frame{At: math.MaxInt, Fn: 1}, 0, api.ErrRange}, {api.Frame{At: math.MaxInt - 4, Fn: 1}, 0, api.ErrRange}, {api.Frame{At: math.MinInt, Fn: 1}, 0, api.ErrRange}, {api.Frame{At: -4, Fn: 1}, 0, api.ErrRange},
		{api.Frame{At: 60, Fn: -1}, 0, api.ErrRange}, {api.Frame{At: 60, Fn: 5}, 0, api.ErrRange}, {api.Frame{At: 60, Fn: math.MaxInt}, 0, api.ErrRange}, {api.Frame{At: 60, Fn: math.MinInt}, 0, api.ErrRange}, {api.Frame{At: 60, Fn: 1 << 32}, 0, api.ErrRange},
		{api.Frame{At: 60, Fn: 1, Link: math.MinInt}, 64, api.OK}, {api.Frame{At: 60, Fn: 1, Link: math.MaxInt}, 64, api.OK},
	} {
		l := []api.Frame{c.x}
		if at, e := slots.Address(x, l, 0, 2); at != c.want || e != c.e {
			t.Errorf("P16.1: Address(%v, 0, 2) = %d, %v, not %d, %v", l, at, e, c.want, c.e)
		}
		for d := -4; d < 8; d++ {
			holdFind(t, x, f, l, c.x.At+d)
			holdFind(t, x, f, append(five(), l...), c.x.At+d)
		}
	}
}

// TestFindTable has the addresses of heads and slots, of five frames.
func TestFindTable(t *testing.T) {
	x := table(t, some()...)
	want := map[int][2]int{47: {4, 0}, 50: {3, 0}, 51: {3, 1}, 52: {3, 2}, 57: {1, 0}, 58: {1, 1}, 59: {1, 2}, 62: {0, 0}, 63: {0, 1}}
	for at := -3; at < 300; at++ {
		p, there := want[at]
		if depth, slot, found := slots.Find(x, five(), at); depth != p[0] || slot != p[1] || found != there {
			t.Errorf("P16.1: Find(%d) = %d, %d, %v, not %v, %v", at, depth, slot, found, p, there)
		}
	}
}

// TestFindOfSeveral has frames that share words: the least depth is found, wherever its frame stands.
func TestFindOfSeveral(t *testing.T) {
	x, f := table(t, some()...), some()
	for _, c := range []struct {
		l               []api.Frame
		at, depth, slot int
	}{
		{[]api.Frame{{At: 40, Fn: 1}, {At: 40, Fn: 1}}, 43, 0, 1},
		{[]api.Frame{{At: 41, Fn: 1}, {At: 40, Fn: 1}}, 43, 0, 0},
		{[]api.Frame{{At: 40, Fn: 1}, {At: 41, Fn: 1}}, 43, 0, 1},
		{[]api.Frame{{At: 40, Fn: 2}, {At: 41, Fn: 1}, {At: 40, Fn: 1}}, 43, 1, 0},
		{[]api.Frame{{At: 41, Fn: 9}, {At: 40, Fn: 1}, {At: 41, Fn: 1}}, 43, 1, 1},
		{[]api.Frame{{At: -1, Fn: 1}, {At: 40, Fn: 4}, {At: 39, Fn: 1}}, 43, 2, 2},
		{[]api.Frame{{At: 43, Fn: 1}, {At: 41, Fn: 4}}, 43, 1, 0},
	} {
		if depth, slot, found := slots.Find(x, c.l, c.at); depth != c.depth || slot != c.slot || !found {
			t.Errorf("P16.1: Find(%v, %d) = %d, %d, %v, not %d, %d", c.l, c.at, depth, slot, found, c.depth, c.slot)
		}
		words := filled(size)
		hold(t, made(t, words), x, words, f, c.l)
	}
}

func TestMayTable(t *testing.T) {
	for _, c := range []struct {
		v    api.Val
		want bool
	}{
		{api.Val{}, true}, {api.Val{Bits: 1}, false}, {api.Val{Depth: 1}, false}, {api.Val{Slot: 1}, false}, {api.Val{Depth: -1}, false}, {api.Val{Slot: -1}, false},
		{api.Val{Kind: 1}, true}, {api.Val{Kind: 1, Bits: 1}, true}, {api.Val{Kind: 1, Bits: math.MaxUint64}, true}, {api.Val{Kind: 1, Depth: 1}, false}, {api.Val{Kind: 1, Slot: 1}, false}, {api.Val{Kind: 1, Slot: -1}, false}, {api.Val{Kind: 1, Bits: 7, Depth: -1}, false},
		{api.Val{Kind: 2}, true}, {api.Val{Kind: 2, Depth: 7}, true}, {api.Val{Kind: 2, Slot: 7}, true}, {api.Val{Kind: 2, Depth: math.MaxInt, Slot: math.MaxInt}, true}, {api.Val{Kind: 2, Bits: 1}, false}, {api.Val{Kind: 2, Bits: 1 << 63, Depth: 4}, false},
		{api.Val{Kind: 2, Depth: -1}, false}, {api.Val{Kind: 2, Slot: -1}, false}, {api.Val{Kind: 2, Depth: math.MinInt, Slot: 4}, false}, {api.Val{Kind: 2, Depth: 4, Slot: math.MinInt}, false}, {api.Val{Kind: 2, Depth: -1, Slot: -1}, false},
		{api.Val{Kind: 3}, false}, {api.Val{Kind: 3, Bits: 1}, false}, {api.Val{Kind: 255}, false}, {api.Val{Kind: 128}, false}, {api.Val{Kind: 254, Depth: 1}, false},
	} {
		if got := slots.May(c.v); got != c.want {
			t.Errorf("P16.1: May(%v) = %v", c.v, got)
		}
	}
}

// TestMayOfEach has each Kind, and each three numbers of some.
func TestMayOfEach(t *testing.T) {
	few := []int{math.MinInt, math.MinInt + 1, -1 << 32, -1, 0, 1, 255, 1000, 1 << 32, math.MaxInt - 1, math.MaxInt}
	for kind := range 256 {
		for _, bits := range []uint64{0, 1, 1 << 31, 1 << 32, 1 << 63, api.NaN, math.MaxUint64} {
			for _, depth := range few {
				for _, slot := range few {
					v := api.Val{Kind: uint8(kind), Bits: bits, Depth: depth, Slot: slot}
					if got := slots.May(v); got != may(v) {
						t.Fatalf("P16.1: May(%v) = %v", v, got)
					}
				}
			}
		}
	}
}

// TestMayOfMany has one that may not be, at each place of a list of values.
func TestMayOfMany(t *testing.T) {
	if !slots.May() || !slots.May([]api.Val{}...) {
		t.Error("P16.1: May of none isn't true")
	}
	l := []api.Val{{}, scalar(9), ref(0, 0), {}, scalar(9), ref(70, 1<<40)}
	for n := range len(l) + 1 {
		if !slots.May(l[:n]...) {
			t.Errorf("P16.1: May(%v) isn't true", l[:n])
		}
	}
	for _, v := range values() {
		for i := range len(l) + 1 {
			with := slices.Insert(slices.Clone(l), i, v)
			kept := slices.Clone(with)
			if got := slots.May(with...); got != may(v) {
				t.Errorf("P16.1: May(%v) = %v", with, got)
			}
			if !slices.Equal(with, kept) {
				t.Fatalf("P0.4: May makes %v of %v", kept, with)
			}
		}
	}
}

// TestGetTable has one word told, in a slot of five frames, all other slots having nothing.
func TestGetTable(t *testing.T) {
	x := table(t, some()...)
	for _, c := range []struct {
		depth, slot int
		word        uint64
		want        api.Val
		e           api.Errno
	}{
		{0, 0, 0, scalar(0), api.OK}, {0, 0, 62, scalar(62), api.OK}, {0, 0, math.MaxUint64, scalar(math.MaxUint64), api.OK}, {1, 1, api.NaN, scalar(api.NaN), api.OK}, {3, 1, 1 << 63, scalar(1 << 63), api.OK},
		{0, 1, 0, api.Val{}, api.OK}, {4, 0, 0, api.Val{}, api.OK}, {0, 1, 62, ref(0, 0), api.OK}, {0, 1, 63, ref(0, 1), api.OK}, {1, 0, 63, ref(0, 1), api.OK}, {1, 0, 57, ref(1, 0), api.OK}, {1, 0, 59, ref(1, 2), api.OK}, {1, 2, 58, ref(1, 1), api.OK},
		{3, 0, 62, ref(0, 0), api.OK}, {3, 2, 59, ref(1, 2), api.OK}, {3, 2, 52, ref(3, 2), api.OK}, {4, 0, 47, ref(4, 0), api.OK}, {4, 0, 50, ref(3, 0), api.OK}, {4, 0, 63, ref(0, 1), api.OK},
		{0, 1, 57, api.Val{}, api.ErrState}, {0, 1, 59, api.Val{}, api.ErrState}, {0, 1, 47, api.Val{}, api.ErrState}, {1, 0, 52, api.Val{}, api.ErrState}, {1, 2, 47, api.Val{}, api.ErrState}, {3, 0, 47, api.Val{}, api.ErrState},
		{0, 1, 60, api.Val{}, api.ErrState}, {0, 1, 61, api.Val{}, api.ErrState}, {0, 1, 64, api.Val{}, api.ErrState}, {0, 1, 1, api.Val{}, api.ErrState}, {1, 0, 56, api.Val{}, api.ErrState}, {4, 0, 53, api.Val{}, api.ErrState}, {4, 0, 54, api.Val{}, api.ErrState}, {4, 0, 46, api.Val{}, api.ErrState}, {4, 0, 2, api.Val{}, api.ErrState},
		{0, 1, 62 + 1<<32, api.Val{}, api.ErrState}, {0, 1, 62 + 1<<63, api.Val{}, api.ErrState}, {0, 1, 62 + 1<<62, api.Val{}, api.ErrState}, {0, 1, math.MaxUint64, api.Val{}, api.ErrState}, {0, 1, math.MaxUint64 - 61, api.Val{}, api.ErrState}, {0, 1, 1 << 63, api.Val{}, api.ErrState},
		{2, 0, 5, api.Val{}, api.ErrRange}, {0, 2, 5, api.Val{}, api.ErrRange}, {5, 0, 5, api.Val{}, api.ErrRange}, {-1, 0, 5, api.Val{}, api.ErrRange}, {0, -1, 5, api.Val{}, api.ErrRange}, {4, 1, 5, api.Val{}, api.ErrRange},
	} {
		words := make([]uint64, size)
		if at, e := slots.Address(x, five(), c.depth, c.slot); e == api.OK {
			words[at] = c.word
		}
		a := made(t, words)
		if v, e := slots.Get(a, x, five(), c.depth, c.slot); v != c.want || e != c.e {
			t.Errorf("P16.1: Get(%d, %d) of %x = %v, %v, not %v, %v", c.depth, c.slot, c.word, v, e, c.want, c.e)
		}
		hold(t, a, x, words, some(), five())
	}
}

// TestGetOfEachWord has each word of some in each slot of five frames.
func TestGetOfEachWord(t *testing.T) {
	x, f, words := table(t, some()...), some(), make([]uint64, size)
	a := made(t, words)
	var l []uint64
	for w := range uint64(70) {
		l = append(l, w, w+1<<32, w+1<<62, w+1<<63, -w)
	}
	for _, p := range places(f, five()) {
		for _, w := range l {
			words[p.at] = w
			a.Store(p.at, w)
			holdGet(t, a, x, words, f, five(), p.depth, p.slot)
			holdAll(t, a, x, words, f, five())
		}
		words[p.at] = 0
		a.Store(p.at, 0)
	}
}

func TestPutTable(t *testing.T) {
	x := table(t, some()...)
	for _, c := range []struct {
		depth, slot int
		v           api.Val
		want        api.Errno
		at          int
		word        uint64
	}{
		{0, 0, scalar(5), api.OK, 62, 5}, {0, 0, scalar(0), api.OK, 62, 0}, {1, 1, scalar(api.NaN), api.OK, 58, api.NaN}, {3, 1, scalar(math.MaxUint64), api.OK, 51, math.MaxUint64}, {1, 1, scalar(62), api.OK, 58, 62},
		{0, 1, api.Val{}, api.OK, 63, 0}, {4, 0, api.Val{}, api.OK, 47, 0}, {0, 1, ref(0, 0), api.OK, 63, 62}, {0, 1, ref(0, 1), api.OK, 63, 63}, {1, 0, ref(0, 1), api.OK, 57, 63}, {1, 0, ref(1, 2), api.OK, 57, 59}, {3, 2, ref(1, 1), api.OK, 52, 58}, {4, 0, ref(4, 0), api.OK, 47, 47}, {4, 0, ref(3, 1), api.OK, 47, 51},
		{2, 0, scalar(5), api.ErrRange, 0, 0}, {0, 2, scalar(5), api.ErrRange, 0, 0}, {5, 0, scalar(5), api.ErrRange, 0, 0}, {-1, 0, scalar(5), api.ErrRange, 0, 0}, {0, -1, scalar(5), api.ErrRange, 0, 0}, {math.MaxInt, math.MaxInt, scalar(5), api.ErrRange, 0, 0},
		{0, 2, api.Val{Kind: 3}, api.ErrRange, 0, 0}, {5, 0, ref(-1, 0), api.ErrRange, 0, 0}, {2, 0, api.Val{Bits: 1}, api.ErrRange, 0, 0},
		{0, 0, api.Val{Kind: 3}, api.ErrArg, 0, 0}, {0, 1, api.Val{Kind: 3}, api.ErrArg, 0, 0}, {0, 0, api.Val{Kind: 1, Slot: 1}, api.ErrArg, 0, 0}, {0, 0, api.Val{Kind: 1, Depth: 1}, api.ErrArg, 0, 0}, {0, 1, api.Val{Bits: 1}, api.ErrArg, 0, 0}, {0, 1, ref(-1, 0), api.ErrArg, 0, 0}, {0, 1, ref(0, -1), api.ErrArg, 0, 0}, {0, 1, api.Val{Kind: 2, Bits: 1}, api.ErrArg, 0, 0},
		{0, 1, api.Val{Kind: 1, Slot: 1}, api.ErrArg, 0, 0}, {0, 0, api.Val{Bits: 1}, api.ErrArg, 0, 0}, {0, 0, ref(-1, 0), api.ErrArg, 0, 0}, {0, 0, ref(0, -1), api.ErrArg, 0, 0}, {0, 1, api.Val{Kind: 2, Bits: 1, Depth: 9}, api.ErrArg, 0, 0},
		{0, 1, scalar(5), api.ErrKind, 0, 0}, {0, 1, scalar(0), api.ErrKind, 0, 0}, {0, 1, scalar(62), api.ErrKind, 0, 0}, {0, 0, api.Val{}, api.ErrKind, 0, 0}, {0, 0, ref(0, 0), api.ErrKind, 0, 0}, {0, 0, ref(9, 9), api.ErrKind, 0, 0}, {0, 0, ref(1, 1), api.ErrKind, 0, 0}, {1, 1, ref(3, 1), api.ErrKind, 0, 0}, {1, 1, api.Val{}, api.ErrKind, 0, 0},
		{0, 1, ref(0, 2), api.ErrRange, 0, 0}, {1, 0, ref(2, 0), api.ErrRange, 0, 0}, {4, 0, ref(2, 0), api.ErrRange, 0, 0}, {4, 0, ref(5, 0), api.ErrRange, 0, 0}, {0, 1, ref(9, 9), api.ErrRange, 0, 0}, {0, 1, ref(1, 3), api.ErrRange, 0, 0}, {0, 1, ref(math.MaxInt, math.MaxInt), api.ErrRange, 0, 0}, {4, 0, ref(0, math.MaxInt), api.ErrRange, 0, 0},
		{0, 1, ref(1, 0), api.ErrDepth, 0, 0}, {0, 1, ref(4, 0), api.ErrDepth, 0, 0}, {1, 2, ref(3, 1), api.ErrDepth, 0, 0}, {3, 0, ref(4, 0), api.ErrDepth, 0, 0}, {1, 0, ref(3, 0), api.ErrDepth, 0, 0},
	} {
		words := filled(size)
		a := made(t, words)
		if e := slots.Put(a, x, five(), c.depth, c.slot, c.v); e != c.want {
			t.Errorf("P16.1: Put(%d, %d, %v) = %v, not %v", c.depth, c.slot, c.v, e, c.want)
		}
		if c.want == api.OK {
			words[c.at] = c.word
			if v, e := slots.Get(a, x, five(), c.depth, c.slot); v != c.v || e != api.OK {
				t.Errorf("P16.2: Get(%d, %d) = %v, %v, not %v", c.depth, c.slot, v, e, c.v)
			}
		}
		same(t, a, words, "Put", c)
	}
}

// TestPutOfEach has each value of some put to each slot of five frames, and to slots that aren't there.
func TestPutOfEach(t *testing.T) {
	x, f, words := table(t, some()...), some(), filled(size)
	a := made(t, words)
	found := map[api.Errno]int{}
	for depth := -1; depth < 7; depth++ {
		for slot := -1; slot < 4; slot++ {
			for _, v := range values() {
				e := holdPut(t, a, x, words, f, five(), depth, slot, v)
				found[e]++
				if got, errno := slots.Get(a, x, five(), depth, slot); e == api.OK && (got != v || errno != api.OK) {
					t.Fatalf("P16.2: Get(%d, %d) = %v, %v, not %v", depth, slot, got, errno, v)
				}
			}
		}
	}
	for _, e := range []api.Errno{api.OK, api.ErrRange, api.ErrArg, api.ErrKind, api.ErrDepth} {
		if found[e] == 0 {
			t.Errorf("nothing answered %v", e)
		}
	}
}

// TestFramesBehindTheEnd has frames whose words, or some of them, aren't in the arena: they may be referred to, but have nothing.
func TestFramesBehindTheEnd(t *testing.T) {
	x, f, words := table(t, some()...), some(), filled(size)
	a := made(t, words)
	l := []api.Frame{{At: 300, Fn: 1}, {At: 251, Fn: 1}, {At: 252, Fn: 1}, {At: 253, Fn: 1}, {At: 254, Fn: 4}, {At: most, Fn: 0}, {At: 40, Fn: 1}, {At: -1, Fn: 1}, {At: most + 1, Fn: 0}}
	for _, c := range []struct {
		depth, slot int
		v           api.Val
		want        api.Errno
	}{
		{0, 0, api.Val{}, api.ErrRange}, {0, 1, scalar(4), api.ErrRange}, {1, 0, api.Val{}, api.OK}, {1, 2, api.Val{}, api.OK}, {2, 1, scalar(4), api.OK}, {2, 2, api.Val{}, api.ErrRange}, {3, 0, api.Val{}, api.OK}, {3, 1, scalar(4), api.ErrRange}, {4, 0, scalar(4), api.ErrRange}, {5, 0, scalar(4), api.ErrRange},
		{0, 0, api.Val{Kind: 3}, api.ErrRange}, {0, 0, scalar(4), api.ErrRange}, {2, 2, ref(-1, 0), api.ErrRange}, {2, 2, ref(6, 0), api.ErrRange}, {7, 0, api.Val{}, api.ErrRange}, {8, 0, scalar(4), api.ErrRange},
		{6, 0, ref(0, 0), api.OK}, {6, 0, ref(0, 2), api.OK}, {6, 0, ref(5, 1), api.OK}, {6, 2, ref(4, 0), api.OK}, {6, 2, ref(1, 2), api.OK}, {6, 2, ref(7, 0), api.ErrRange}, {6, 2, ref(8, 0), api.ErrRange}, {1, 0, ref(5, 0), api.ErrDepth}, {1, 0, ref(0, 1), api.OK},
	} {
		if e := holdPut(t, a, x, words, f, l, c.depth, c.slot, c.v); e != c.want {
			t.Errorf("P16.1: Put(%d, %d, %v) = %v, not %v", c.depth, c.slot, c.v, e, c.want)
		}
		hold(t, a, x, words, f, l)
	}
	if v, e := slots.Get(a, x, l, 6, 0); v != ref(5, 1) || e != api.OK {
		t.Errorf("P16.2: a reference to a slot behind the arena's end: %v, %v", v, e)
	}
}

// TestAllTable has the first error, frame by frame and slot by slot.
func TestAllTable(t *testing.T) {
	x, f := table(t, some()...), some()
	for _, c := range []struct {
		what string
		l    []api.Frame
		want api.Errno
	}{
		{"none", nil, api.OK},
		{"one of no slots", []api.Frame{{At: 40, Fn: 2}}, api.OK},
		{"one of no slots, behind the end", []api.Frame{{At: 400, Fn: 2}}, api.OK},
		{"one of no function", []api.Frame{{At: 40, Fn: 5}}, api.OK},
		{"one that isn't reckoned", []api.Frame{{At: -1, Fn: 1}, {At: most + 1, Fn: 0}}, api.OK},
		{"one of a scalar", []api.Frame{{At: 40, Fn: 4}}, api.OK},
		{"one of a pointer, of no slot", []api.Frame{{At: 40, Fn: 3}}, api.ErrState},
		{"one whose word isn't there", []api.Frame{{At: 254, Fn: 4}}, api.ErrRange},
		{"a pointer of no slot, ahead of a word that isn't there", []api.Frame{{At: 40, Fn: 3}, {At: 254, Fn: 4}}, api.ErrState},
		{"a word that isn't there, ahead of a pointer of no slot", []api.Frame{{At: 254, Fn: 4}, {At: 40, Fn: 3}}, api.ErrRange},
		{"both in one frame", []api.Frame{{At: 252, Fn: 1}}, api.ErrState},
		{"a scalar that isn't there, ahead of a pointer", []api.Frame{{At: 254, Fn: 0}, {At: 40, Fn: 3}}, api.ErrRange},
		{"the last one is wrong", []api.Frame{{At: 40, Fn: 4}, {At: 50, Fn: 2}, {At: 60, Fn: 0}}, api.ErrState},
	} {
		words := filled(size)
		a := made(t, words)
		got, e := slots.All(a, x, c.l)
		if e != c.want || e != api.OK && len(got) != 0 || e == api.OK && len(got) != len(c.l) {
			t.Errorf("P16.1: All of %s: %v, %v, not %v", c.what, got, e, c.want)
		}
		hold(t, a, x, words, f, c.l)
	}
	words := make([]uint64, size)
	copy(words[62:], []uint64{9, 62})
	copy(words[57:], []uint64{59, 7, 0})
	a := made(t, words)
	got, e := slots.All(a, x, five())
	want := [][]api.Val{{scalar(9), ref(0, 0)}, {ref(1, 2), scalar(7), {}}, nil, {{}, scalar(0), {}}, {{}}}
	if e != api.OK || !slices.EqualFunc(got, want, slices.Equal) {
		t.Errorf("P16.1: All of five frames: %v, %v, not %v", got, e, want)
	}
}

// TestNilArena has no words: what is reckoned of frames alone is answered, all else isn't there.
func TestNilArena(t *testing.T) {
	x, f := table(t, some()...), some()
	for _, l := range [][]api.Frame{nil, five(), {{At: 0, Fn: 1}}, {{At: -2, Fn: 1}}, {{At: 0, Fn: 2}}} {
		hold(t, nil, x, nil, f, l)
		for _, v := range values() {
			for depth := -1; depth < 6; depth++ {
				for slot := -1; slot < 4; slot++ {
					if e := slots.Put(nil, x, l, depth, slot, v); e != api.ErrRange {
						t.Fatalf("P16.1: Put(%v, %d, %d, %v) of no arena: %v", l, depth, slot, v, e)
					}
				}
			}
		}
	}
}

// TestNilTable has no functions: no frame has slots.
func TestNilTable(t *testing.T) {
	words := filled(size)
	a := made(t, words)
	for _, n := range numbers() {
		l := append(five(), api.Frame{At: n, Fn: n})
		for _, e := range []api.Errno{holdGet(t, a, nil, words, nil, l, 0, 0), holdGet(t, a, nil, words, nil, l, 5, n), holdPut(t, a, nil, words, nil, l, 0, 0, scalar(5)), holdPut(t, a, nil, words, nil, l, 5, 0, api.Val{Kind: 9})} {
			if e != api.ErrRange {
				t.Errorf("P16.1: a slot of no table: %v", e)
			}
		}
		holdAddress(t, nil, nil, l, 1, n)
		holdFind(t, nil, nil, l, n)
		if got, e := slots.All(a, nil, l); e != api.OK || len(got) != 6 || len(slices.Concat(got...)) != 0 {
			t.Errorf("P16.1: All of no table: %v, %v", got, e)
		}
	}
	hold(t, a, nil, words, nil, five())
	hold(t, nil, nil, nil, nil, nil)
}

// TestNoFrames have no slots; a nil list of frames is the same as an empty one.
func TestNoFrames(t *testing.T) {
	x, f, words := table(t, some()...), some(), filled(size)
	a := made(t, words)
	for _, l := range [][]api.Frame{nil, {}} {
		hold(t, a, x, words, f, l)
		for _, v := range values() {
			if e := holdPut(t, a, x, words, f, l, 0, 0, v); e != api.ErrRange {
				t.Errorf("P16.1: Put(%v) of no frames: %v", v, e)
			}
		}
	}
}

// TestSmallFrames has each two frames of some, that stand apart, touch, or share words, over words that are small.
func TestSmallFrames(t *testing.T) {
	x, f := table(t, some()...), some()
	r := rule(16)
	for at := -1; at < 10; at++ {
		for other := -1; other < 10; other++ {
			for k := range 25 {
				words := filled(size)
				for i := range 16 {
					words[i] = uint64(r.below(14))
				}
				a := made(t, words)
				l := []api.Frame{{At: at, Fn: k % 5}, {At: other, Fn: k / 5}}
				hold(t, a, x, words, f, l)
				for range 6 {
					v := values()[r.below(len(values()))]
					holdPut(t, a, x, words, f, l, r.below(3), r.below(4), v)
					holdPut(t, a, x, words, f, l, r.below(2), r.below(3), ref(r.below(2), r.below(3)))
				}
				hold(t, a, x, words, f, l)
			}
		}
	}
}

// pushed are frames of these functions, in front of one another, pushed from the arena's end on.
func pushed(t *testing.T, a *arena.Arena, x *fns.Table, calls ...int) []api.Frame {
	t.Helper()
	var l []api.Frame
	sp, link := a.Words(), -1
	for _, f := range calls {
		at, e := frame.Push(a, x, 0, sp, f, link)
		if e != api.OK {
			t.Fatalf("a frame of %d ahead of %d: %v", f, sp, e)
		}
		l = append(l, api.Frame{At: at, Fn: f, Link: link})
		sp, link = at, at
	}
	return l
}

// TestPushed have scalars 0, and pointers that have nothing.
func TestPushed(t *testing.T) {
	x, f := table(t, some()...), some()
	a := made(t, filled(size))
	l := pushed(t, a, x, 0, 1, 2, 3, 4, 1, 1, 0)
	got, e := slots.All(a, x, l)
	if e != api.OK || len(got) != len(l) {
		t.Fatalf("P16.1: All of frames that were pushed: %v, %v", got, e)
	}
	for depth, y := range l {
		for slot, ptr := range f[y.Fn] {
			want := scalar(0)
			if ptr {
				want = api.Val{}
			}
			if got[depth][slot] != want {
				t.Errorf("P16.1: the slot %d of the depth %d has %v, not %v", slot, depth, got[depth][slot], want)
			}
		}
	}
}

// TestPutIsGot puts and gets, in long rows: each slot has what was put there last.
func TestPutIsGot(t *testing.T) {
	r := rule(17)
	for range 40 {
		f := append(some(), make(fn, 20), slices.Repeat(fn{true}, 9))
		x := table(t, f...)
		a := made(t, make([]uint64, size))
		var calls []int
		for range 1 + r.below(9) {
			calls = append(calls, r.below(len(f)))
		}
		l := pushed(t, a, x, calls...)
		words, _ := a.Row(0, size)
		want, _ := everything(words, f, l)
		for range 200 {
			depth, slot := r.below(len(l)+1), r.below(21)
			v := []api.Val{{}, scalar(r.next()), ref(r.below(len(l)+1), r.below(10)), ref(r.below(depth+1), r.below(3)), values()[r.below(len(values()))]}[r.below(5)]
			if holdPut(t, a, x, words, f, l, depth, slot, v) == api.OK {
				want[depth][slot] = v
			}
			got, e := slots.All(a, x, l)
			if e != api.OK || !slices.EqualFunc(got, want, slices.Equal) {
				t.Fatalf("P16.2: behind Put(%d, %d, %v): %v, %v, not %v", depth, slot, v, got, e, want)
			}
			if depth < len(l) && slot < len(want[depth]) {
				if v, e := slots.Get(a, x, l, depth, slot); v != want[depth][slot] || e != api.OK {
					t.Fatalf("P16.2: Get(%d, %d) = %v, %v, not %v", depth, slot, v, e, want[depth][slot])
				}
			}
		}
		hold(t, a, x, words, f, l)
	}
}

// TestGreatFrames have as many slots as may be, of which each third one is a pointer slot.
func TestGreatFrames(t *testing.T) {
	great := make(fn, api.MaxSlots)
	for slot := range great {
		great[slot] = slot%3 == 1
	}
	f := []fn{great, {false}}
	x, a := table(t, f...), made(t, filled(64*api.PageWords))
	l := pushed(t, a, x, 0, 1, 0, 0, 1)
	words, _ := a.Row(0, a.Words())
	for _, slot := range []int{0, 1, 2, 63, 64, 65, 127, 128, 130, 997, 998, 999, 1000} {
		for depth := range len(l) + 1 {
			for _, v := range []api.Val{{}, scalar(uint64(slot)), ref(0, 999), ref(0, slot), ref(depth, 0), ref(depth, 1000), ref(2, slot), ref(3, 999)} {
				holdPut(t, a, x, words, f, l, depth, slot, v)
				holdGet(t, a, x, words, f, l, depth, slot)
			}
		}
	}
	holdAll(t, a, x, words, f, l)
	for at := range len(words) + 3 {
		holdFind(t, x, f, l, at)
	}
	if got, e := slots.All(a, x, l); e != api.OK || len(got) != 5 || len(got[0]) != 1000 || len(got[1]) != 1 || len(got[3]) != 1000 {
		t.Errorf("P16.1: All of great frames: %d, %v", len(got), e)
	}
}

// TestManyFrames has as many frames of a pointer as a great arena has room for, each of which refers to the one behind it.
func TestManyFrames(t *testing.T) {
	x, a := table(t, some()...), made(t, filled(48*api.PageWords))
	l := pushed(t, a, x, slices.Repeat([]int{3}, a.Words()/3)...)
	for depth := range l {
		if e := slots.Put(a, x, l, depth, 0, ref(max(0, depth-1), 0)); e != api.OK {
			t.Fatalf("P16.1: Put(%d): %v", depth, e)
		}
	}
	got, e := slots.All(a, x, l)
	if e != api.OK || len(got) != len(l) {
		t.Fatalf("P16.1: All of %d frames: %d, %v", len(l), len(got), e)
	}
	for depth := range l {
		if len(got[depth]) != 1 || got[depth][0] != ref(max(0, depth-1), 0) {
			t.Fatalf("P16.2: the depth %d has %v", depth, got[depth])
		}
	}
}

// TestAnsweredIsNew writes into what was answered: no later call tells it, and no other list of it.
func TestAnsweredIsNew(t *testing.T) {
	x, f := table(t, some()...), some()
	a := made(t, filled(size))
	l := pushed(t, a, x, 0, 1, 3, 1)
	words, _ := a.Row(0, size)
	one, _ := slots.All(a, x, l)
	two, _ := slots.All(a, x, l)
	want, _ := everything(words, f, l)
	for depth, vals := range one {
		// The room behind a list's end is written into, too.
		for slot := range vals[:cap(vals)] {
			vals[:cap(vals)][slot] = ref(8, 8)
		}
		for d := depth + 1; d < len(one); d++ {
			if !slices.Equal(one[d], want[d]) {
				t.Fatalf("P0.4: what was written into the depth %d changed the depth %d: %v", depth, d, one[d])
			}
		}
		one[depth] = nil
	}
	for i := range one[:cap(one)] {
		one[:cap(one)][i] = []api.Val{ref(9, 9)}
	}
	if !slices.EqualFunc(two, want, slices.Equal) {
		t.Errorf("P0.4: %v was answered, and is %v now", want, two)
	}
	hold(t, a, x, words, f, l)
}

// TestHandedInStays has frames in a longer list: neither they, nor what stands behind them, is changed.
func TestHandedInStays(t *testing.T) {
	x, f, words := table(t, some()...), some(), make([]uint64, size)
	a := made(t, words)
	all := append(five(), api.Frame{At: 1, Fn: 1}, api.Frame{At: 20, Fn: 0})
	kept := slices.Clone(all)
	for n := range len(all) {
		for _, v := range values() {
			holdPut(t, a, x, words, f, all[:n], n-1, 0, v)
		}
		hold(t, a, x, words, f, all[:n])
		if !slices.Equal(all, kept) {
			t.Fatalf("P0.4: %v became %v", kept, all)
		}
	}
}

// TestNothingIsKept changes words, frames, tables and arenas between calls: each answers as it stands then.
func TestNothingIsKept(t *testing.T) {
	f, g := some(), []fn{{true, false}, {false, true, false}, {true}, {}, {true}}
	x, y := table(t, f...), table(t, g...)
	words, others := filled(size), make([]uint64, 2*size)
	a, b := made(t, words), made(t, others)
	l := five()
	for i := range 5 {
		hold(t, a, x, words, f, l)
		hold(t, b, y, others, g, l)
		hold(t, a, y, words, g, l)
		hold(t, b, x, others, f, l)
		holdPut(t, a, x, words, f, l, 1, 0, ref(0, 1))
		holdPut(t, b, y, others, g, l, 1, 1, ref(1, 2))
		holdPut(t, b, x, others, f, l, 4, 0, ref(i, 0))
		words[50]++
		a.Store(50, words[50])
		l[i].At += i
		l[4-i].Fn = i
	}
}
