package move_test

import (
	"math"
	"slices"
	"testing"

	"shoring/api"
	"shoring/arena"
	"shoring/fns"
	"shoring/frame"
	"shoring/move"
	"shoring/slots"
	"shoring/walk"
)

// The signatures are exact: another one doesn't compile here.
var (
	_ func(*arena.Arena, *fns.Table, api.Stack, int, int) (api.Stack, api.Errno) = move.To
	_ func(api.Stack, int, int) int                                              = move.By
	_ func(api.Stack, ...api.Stack) bool                                         = move.Fits
)

// words of an arena of 4 pages, and the greatest number that By and Fits reckon with.
const (
	size = 256
	most = 1 << 40
)

// rule makes numbers one behind the other, that hang on the one it starts with alone.
type rule uint64

// next is the rule's next number.
func (r *rule) next() uint64 {
	*r = *r*6364136223846793005 + 1442695040888963407
	x := uint64(*r)
	return x ^ x>>29
}

// below is a number from 0 to n-1.
func (r *rule) below(n int) int { return int(r.next() >> 1 % uint64(n)) }

// numbers are those around sizes of stacks, the ends of an arena of 256 words, what is reckoned with, and both ends of an int.
func numbers() []int {
	l := []int{math.MinInt, math.MinInt + 1, math.MinInt + 16, -1 << 62, -1 << 40, -1 << 32, -256, -16, -1, 0, 1, 8, 15, 16, 17, 24, 32, 48, 64, 128, 240, 241, 255, 256, 257, 512}
	for _, n := range []int{1 << 16, 1 << 31, 1 << 32, 1 << 39, most, 1 << 41, 1 << 62} {
		l = append(l, n-1, n, n+1)
	}
	return append(l, math.MaxInt-256, math.MaxInt-16, math.MaxInt-1, math.MaxInt)
}

// fn is a function as it is told: for each of its slots whether it is a pointer slot.
type fn []bool

// some are the functions that most tests ask: of no slots, of a scalar, of a pointer, and of both.
func some() []fn {
	return []fn{{false, true}, {true, false, true}, {}, {true}, {false}, {true, true}}
}

// great is a function of so many slots, whose pointer slots are those that these numbers divide.
func great(n int, by ...int) fn {
	x := make(fn, n)
	for slot := range x {
		x[slot] = slices.ContainsFunc(by, func(d int) bool { return slot%d == d-1 })
	}
	return x
}

// table is one of these functions.
func table(t *testing.T, l ...fn) *fns.Table {
	t.Helper()
	var f []api.Fn
	for _, ptrs := range l {
		x := api.Fn{Size: len(ptrs), Ptrs: make([]uint64, (len(ptrs)+63)/64)}
		for slot, ptr := range ptrs {
			if ptr {
				x.Ptrs[slot/64] |= 1 << (slot % 64)
			}
		}
		f = append(f, x)
	}
	x, e := fns.New(f...)
	if e != api.OK {
		t.Fatalf("a table of %v: %v", l, e)
	}
	return x
}

// made is an arena of these words, one at each of its addresses.
func made(t *testing.T, words []uint64) *arena.Arena {
	t.Helper()
	a, e := arena.New(len(words) / api.PageWords)
	if e != api.OK || a.Store(0, words...) != api.OK {
		t.Fatalf("an arena of %d words: %v", len(words), e)
	}
	return a
}

// filled are words, none of which is 0, or an address.
func filled(n int) []uint64 {
	l := make([]uint64, n)
	r := rule(3)
	for at := range l {
		l[at] = r.next() | 1<<50
	}
	return l
}

// same asks whether an arena's words are these.
func same(t *testing.T, a *arena.Arena, words []uint64, what ...any) {
	t.Helper()
	got, e := a.Row(0, a.Words())
	if e != api.OK || len(got) != len(words) {
		t.Fatalf("%v: %d words, %v", what, len(got), e)
	}
	for at, w := range words {
		if got[at] != w {
			t.Fatalf("P17.1, P0.3: %v: the word at %d is %x, not %x", what, at, got[at], w)
		}
	}
}

// lay writes the frames of these functions, the bottom one first, into words that a stack's end stands behind: its SP. Pointer slots have nothing, or refer to slots at hand; scalar slots have such addresses, too, links, and other bits.
func lay(words []uint64, f []fn, r *rule, end int, calls ...int) int {
	sp := end
	var met []uint64
	for _, c := range calls {
		at := sp - 2 - len(f[c])
		words[at], words[at+1] = uint64(sp)+1, uint64(c)+1
		if sp == end {
			words[at] = 0
		}
		for i := range f[c] {
			met = append(met, uint64(at+2+i))
		}
		for i, ptr := range f[c] {
			words[at+2+i] = met[r.below(len(met))]
			if others := []uint64{0, uint64(sp) + 1, uint64(at), 1, r.next(), math.MaxUint64}; ptr && r.below(4) == 0 {
				words[at+2+i] = 0
			} else if !ptr && r.below(2) == 0 {
				words[at+2+i] = others[r.below(len(others))]
			}
		}
		sp = at
	}
	return sp
}

// calls are functions, one behind the other, whose frames take at most so many words.
func calls(f []fn, r *rule, most int) []int {
	var l []int
	for {
		c := r.below(len(f))
		if most -= 2 + len(f[c]); most < 0 {
			return l
		}
		l = append(l, c)
	}
}

// stands tells whether it is a stack in an arena of so many words.
func stands(n int, s api.Stack) bool {
	for words := 16; words <= n; words *= 2 {
		if s.Size == words && s.Lo >= 0 && s.Lo <= n-words {
			return s.SP >= s.Lo && s.SP-s.Lo <= words
		}
	}
	return false
}

// head is where a frame of a function stands.
type head struct{ at, fn int }

// heads are a stack's frames, from SP on, and whether its words from there on are frames.
func heads(words []uint64, f []fn, s api.Stack) ([]head, bool) {
	var l []head
	end := s.Lo + s.Size
	for at := s.SP; at < end; {
		if end-at < 2 || words[at+1] == 0 || words[at+1] > uint64(len(f)) {
			return nil, false
		}
		x := head{at, int(words[at+1]) - 1}
		at += 2 + len(f[x.fn])
		link := uint64(at) + 1
		if at == end {
			link = 0
		}
		if at > end || words[x.at] != link {
			return nil, false
		}
		l = append(l, x)
	}
	return l, true
}

// raised are the addresses of the words of a stack that lead somewhere, and whether it may be told of each word of it what it is.
func raised(words []uint64, f []fn, s api.Stack) ([]int, bool) {
	l, are := heads(words, f, s)
	if !are {
		return nil, false
	}
	var ats []int
	below := map[uint64]bool{0: true}
	for _, x := range slices.Backward(l) {
		for i := range f[x.fn] {
			below[uint64(x.at+2+i)] = true
		}
		ats = append(ats, x.at)
		for i, ptr := range f[x.fn] {
			if !ptr {
				continue
			}
			if !below[words[x.at+2+i]] {
				return nil, false
			}
			ats = append(ats, x.at+2+i)
		}
	}
	return ats, true
}

// moved is what To should answer, and the words that the arena is to have then: told from its words alone.
func moved(words []uint64, f []fn, s api.Stack, lo, n int) ([]uint64, api.Stack, api.Errno) {
	if !stands(len(words), s) || !stands(len(words), api.Stack{Lo: lo, Size: n, SP: lo}) {
		return words, api.Stack{}, api.ErrArg
	}
	ats, are := raised(words, f, s)
	if !are {
		return words, api.Stack{}, api.ErrState
	}
	end, used := s.Lo+s.Size, s.Lo+s.Size-s.SP
	if used > n || lo < end && s.Lo < lo+n {
		return words, api.Stack{}, api.ErrRange
	}
	all := slices.Clone(words)
	sp := lo + n - used
	copy(all[sp:lo+n], words[s.SP:end])
	for _, at := range ats {
		if w := words[at]; w != 0 {
			all[at-s.SP+sp] = w - uint64(s.SP) + uint64(sp)
		}
	}
	return all, api.Stack{Lo: lo, Size: n, SP: sp}, api.OK
}

// hold holds what To answers, and all words behind it: these are answered.
func hold(t *testing.T, a *arena.Arena, x *fns.Table, words []uint64, f []fn, s api.Stack, lo, n int) ([]uint64, api.Stack, api.Errno) {
	t.Helper()
	got, e := move.To(a, x, s, lo, n)
	all, want, errno := moved(words, f, s, lo, n)
	if got != want || e != errno {
		t.Fatalf("P17.1: To(%v, %d, %d) = %v, %v, not %v, %v", s, lo, n, got, e, want, errno)
	}
	same(t, a, all, "To", s, lo, n)
	return all, got, e
}

// row is what a stack's frames are, without addresses.
func row(t *testing.T, a *arena.Arena, x *fns.Table, s api.Stack) []api.AFrame {
	t.Helper()
	l, e := walk.Frames(a, x, s)
	if e != api.OK {
		t.Fatalf("P17.2: %v has no frames: %v", s, e)
	}
	vals, e := slots.All(a, x, l)
	if e != api.OK {
		t.Fatalf("P17.2: %v has slots that have nothing: %v", s, e)
	}
	var all []api.AFrame
	for depth, y := range l {
		all = append(all, api.AFrame{Fn: y.Fn, Slots: vals[depth]})
	}
	return all
}

// equal tells whether rows are the same.
func equal(l, m []api.AFrame) bool {
	return slices.EqualFunc(l, m, func(x, y api.AFrame) bool {
		return x.Fn == y.Fn && slices.Equal(x.Slots, y.Slots)
	})
}

// three are words with a stack of 64 words, at 64, that has three frames, from 115 on.
func three() ([]uint64, api.Stack) {
	words := filled(size)
	copy(words[115:128], []uint64{
		119 + 1, 1, 117, 121, // the top one, of a scalar, and a pointer to the frame behind it
		124 + 1, 2, 121, 5, 126, // of two pointers, and a scalar between: to itself, and to the bottom one
		0, 1, 127, 0, // the bottom one, of a scalar that is an address, and of nothing
	})
	return words, api.Stack{Lo: 64, Size: 64, SP: 115}
}

// TestExample is the chapter's.
func TestExample(t *testing.T) {
	if got := move.By(api.Stack{Lo: 0, Size: 16, SP: 16}, 32, 32); got != 48 {
		t.Errorf("P17.1: By = %d", got)
	}
	words := filled(size)
	hold(t, made(t, words), table(t, some()...), words, some(), api.Stack{Lo: 0, Size: 16, SP: 16}, 32, 32)
}

// TestTo has each word of three frames behind a move, told one by one.
func TestTo(t *testing.T) {
	words, s := three()
	a := made(t, words)
	to, e := move.To(a, table(t, some()...), s, 128, 128)
	if want := (api.Stack{Lo: 128, Size: 128, SP: 243}); to != want || e != api.OK {
		t.Fatalf("P17.1: To = %v, %v, not %v", to, e, want)
	}
	copy(words[243:256], []uint64{247 + 1, 1, 117, 249, 252 + 1, 2, 249, 5, 254, 0, 1, 127, 0})
	same(t, a, words, "To")

	to, e = move.To(a, table(t, some()...), s, 32, 32)
	if want := (api.Stack{Lo: 32, Size: 32, SP: 51}); to != want || e != api.OK {
		t.Fatalf("P17.1: To lower words = %v, %v, not %v", to, e, want)
	}
	copy(words[51:64], []uint64{55 + 1, 1, 117, 57, 60 + 1, 2, 57, 5, 62, 0, 1, 127, 0})
	same(t, a, words, "To lower words")
}

// TestErrors has each error, and which of several is told.
func TestErrors(t *testing.T) {
	words, s := three()
	a, x := made(t, words), table(t, some()...)
	not, high := s, s
	not.SP, high.SP = 116, 129
	for _, c := range []struct {
		s     api.Stack
		lo, n int
		want  api.Errno
	}{
		// No stack, where there are other errors, too.
		{api.Stack{}, 128, 64, api.ErrArg}, {api.Stack{Lo: 64, Size: 63, SP: 115}, 128, 64, api.ErrArg}, {high, 128, 64, api.ErrArg}, {api.Stack{Lo: 64, Size: 64, SP: 63}, 128, 64, api.ErrArg}, {api.Stack{Lo: 224, Size: 64, SP: 230}, 128, 64, api.ErrArg}, {api.Stack{Lo: -64, Size: 64, SP: -1}, 128, 64, api.ErrArg}, {high, 64, 16, api.ErrArg},
		// No stack has these words.
		{s, 128, 0, api.ErrArg}, {s, 128, 8, api.ErrArg}, {s, 128, 24, api.ErrArg}, {s, 128, 63, api.ErrArg}, {s, 128, 65, api.ErrArg}, {s, 128, 96, api.ErrArg}, {s, 128, -64, api.ErrArg}, {s, 128, 256, api.ErrArg}, {s, 193, 64, api.ErrArg}, {s, 256, 16, api.ErrArg}, {s, -1, 16, api.ErrArg}, {s, -64, 64, api.ErrArg}, {s, 100, 24, api.ErrArg}, {s, 128, 1 << 62, api.ErrArg}, {s, math.MaxInt, 16, api.ErrArg}, {s, math.MinInt, 16, api.ErrArg}, {s, 0, math.MinInt, api.ErrArg}, {s, math.MaxInt, math.MaxInt, api.ErrArg},
		// Its words aren't frames: told behind what is no stack, and ahead of room.
		{not, 128, 63, api.ErrArg}, {not, 193, 64, api.ErrArg}, {not, 128, 64, api.ErrState}, {not, 128, 16, api.ErrState}, {not, 64, 64, api.ErrState}, {not, 112, 16, api.ErrState}, {api.Stack{Lo: 64, Size: 32, SP: 80}, 128, 64, api.ErrState},
		// Words are shared, be they used or not; words are more than there is room for.
		{s, 64, 64, api.ErrRange}, {s, 64, 16, api.ErrRange}, {s, 1, 64, api.ErrRange}, {s, 127, 64, api.ErrRange}, {s, 0, 128, api.ErrRange}, {s, 0, 256, api.ErrRange}, {s, 96, 16, api.ErrRange}, {s, 49, 16, api.ErrRange}, {s, 112, 128, api.ErrRange},
	} {
		to, e := move.To(a, x, c.s, c.lo, c.n)
		if to != (api.Stack{}) || e != c.want {
			t.Errorf("P17.1, P0.2: To(%v, %d, %d) = %v, %v, not %v", c.s, c.lo, c.n, to, e, c.want)
		}
		same(t, a, words, "To", c.s, c.lo, c.n)
	}
}

// TestErrorsOfSlots has pointer slots that have nothing that can be told.
func TestErrorsOfSlots(t *testing.T) {
	x := table(t, some()...)
	for _, c := range []struct {
		at   int
		w    uint64
		want api.Errno
	}{
		{118, 118, api.OK}, {118, 117, api.OK}, {118, 127, api.OK}, {118, 0, api.OK}, {121, 117, api.ErrState}, {121, 118, api.ErrState}, {121, 123, api.OK}, {123, 126, api.OK}, {127, 127, api.OK}, {127, 126, api.OK}, {127, 123, api.ErrState}, {127, 117, api.ErrState},
		{118, 115, api.ErrState}, {118, 116, api.ErrState}, {118, 119, api.ErrState}, {118, 128, api.ErrState}, {118, 114, api.ErrState}, {118, 1, api.ErrState}, {118, math.MaxUint64, api.ErrState}, {118, 1<<63 + 117, api.ErrState}, {118, 1<<32 + 117, api.ErrState},
		{117, math.MaxUint64, api.OK}, {117, 118, api.OK}, {122, 0, api.OK}, {126, 118, api.OK}, {114, 0, api.OK}, {128, 0, api.OK},
	} {
		words, s := three()
		words[c.at] = c.w
		if _, _, e := hold(t, made(t, words), x, words, some(), s, 128, 64); e != c.want {
			t.Errorf("P17.1: To, the word at %d being %x: %v, not %v", c.at, c.w, e, c.want)
		}
		// What isn't there, or shared, is told ahead of it, or behind it.
		if _, _, e := hold(t, made(t, words), x, words, some(), s, 128, 63); e != api.ErrArg {
			t.Errorf("P0.2: To no stack, the word at %d being %x: %v", c.at, c.w, e)
		}
		if _, _, e := hold(t, made(t, words), x, words, some(), s, 64, 32); e != max(c.want, api.ErrRange) {
			t.Errorf("P0.2: To the same words, the word at %d being %x: %v", c.at, c.w, e)
		}
	}
}

// TestEachWord has frames, each word of which is another one.
func TestEachWord(t *testing.T) {
	x := table(t, some()...)
	base, s := three()
	met := map[api.Errno]int{}
	for at := s.SP - 2; at < s.Lo+s.Size; at++ {
		bits := []uint64{1 << 32, 1<<63 + 120, math.MaxUint64 - 1, math.MaxUint64}
		for w := range uint64(size + 3) {
			bits = append(bits, w)
		}
		for _, w := range bits {
			words := slices.Clone(base)
			words[at] = w
			_, _, e := hold(t, made(t, words), x, words, some(), s, 0, 32)
			met[e]++
		}
	}
	if met[api.OK] < 1000 || met[api.ErrState] < 1000 {
		t.Errorf("of each word: %v", met)
	}
}

// TestEachPlace has stacks with frames at several places, and goes from each to all words of the arena, of each size.
func TestEachPlace(t *testing.T) {
	x, r := table(t, some()...), rule(7)
	met := map[api.Errno]int{}
	for _, s := range []api.Stack{{Lo: 0, Size: 16}, {Lo: 240, Size: 16}, {Lo: 100, Size: 16}, {Lo: 32, Size: 32}, {Lo: 64, Size: 64}, {Lo: 128, Size: 128}, {Lo: 0, Size: 128}, {Lo: 77, Size: 64}, {Lo: 0, Size: 256}} {
		for _, part := range []int{0, 2, 16, 17, s.Size / 2, s.Size} {
			words := filled(size)
			s.SP = lay(words, some(), &r, s.Lo+s.Size, calls(some(), &r, min(part, s.Size))...)
			a := made(t, words)
			for lo := -17; lo <= size+1; lo++ {
				for _, n := range []int{0, 8, 15, 16, 17, 32, 48, 64, 128, 256, 512} {
					all, _, e := hold(t, a, x, words, some(), s, lo, n)
					met[e]++
					if e == api.OK {
						words = all
					}
				}
			}
		}
	}
	for _, e := range []api.Errno{api.OK, api.ErrArg, api.ErrRange} {
		if met[e] < 1000 {
			t.Errorf("of each place: %v", met)
		}
	}
}

// TestEachNumber has stacks, and places, of numbers at both ends of an int.
func TestEachNumber(t *testing.T) {
	x := table(t, some()...)
	words, s := three()
	a := made(t, words)
	for _, n := range numbers() {
		for _, m := range numbers() {
			hold(t, a, x, words, some(), s, n, m)
			a.Store(0, words...)
			for _, sp := range numbers() {
				hold(t, a, x, words, some(), api.Stack{Lo: n, Size: m, SP: sp}, 0, 16)
				a.Store(0, words...)
			}
		}
	}
}

// TestUsed has stacks of all numbers of words that are used, and smaller and greater ones they go to.
func TestUsed(t *testing.T) {
	f := []fn{{}, {true}}
	x, r := table(t, f...), rule(11)
	for used := range 65 {
		if used == 1 {
			continue
		}
		// Frames of two words, and one of three, if they are odd.
		l := make([]int, used/2)
		if used%2 == 1 {
			l[r.below(len(l))] = 1
		}
		for _, n := range []int{16, 32, 64, 128} {
			words := filled(size)
			s := api.Stack{Lo: 192, Size: 64, SP: lay(words, f, &r, size, l...)}
			if walk.Used(s) != used {
				t.Fatalf("%d words are used, not %d", walk.Used(s), used)
			}
			_, to, e := hold(t, made(t, words), x, words, f, s, 8, n)
			if (e == api.OK) != (used <= n) || e == api.OK && walk.Used(to) != used {
				t.Errorf("P17.1: To of %d words, to %d: %v, %v", used, n, to, e)
			}
		}
	}
}

// TestNone has a stack without frames: no word is written, and none is asked.
func TestNone(t *testing.T) {
	words := filled(size)
	for _, x := range []*fns.Table{nil, table(t, some()...)} {
		for _, s := range []api.Stack{{Lo: 0, Size: 16, SP: 16}, {Lo: 240, Size: 16, SP: 256}, {Lo: 0, Size: 128, SP: 128}} {
			_, to, e := hold(t, made(t, words), x, words, nil, s, 128, 64)
			if e != api.OK || to != (api.Stack{Lo: 128, Size: 64, SP: 192}) {
				t.Errorf("P17.1: To of no frames: %v, %v", to, e)
			}
		}
	}
}

// TestNil has no arena, and no table.
func TestNil(t *testing.T) {
	words, s := three()
	x := table(t, some()...)
	for _, y := range []api.Stack{s, {}, {Lo: 0, Size: 16, SP: 16}, {Lo: 1 << 62, Size: 1 << 62, SP: 1 << 62}} {
		for _, n := range numbers() {
			for _, tab := range []*fns.Table{nil, x} {
				if to, e := move.To(nil, tab, y, n, 16); to != (api.Stack{}) || e != api.ErrArg {
					t.Errorf("P17.1, P0.1: To(nil, %v, %d, 16) = %v, %v", y, n, to, e)
				}
				if to, e := move.To(nil, tab, y, 0, n); to != (api.Stack{}) || e != api.ErrArg {
					t.Errorf("P17.1, P0.1: To(nil, %v, 0, %d) = %v, %v", y, n, to, e)
				}
			}
		}
	}
	a := made(t, words)
	hold(t, a, nil, words, nil, s, 128, 64)
	if _, e := move.To(a, nil, s, 128, 64); e != api.ErrState {
		t.Errorf("P17.1: To of no functions: %v", e)
	}
}

// TestTables has frames, and tables of other functions than theirs.
func TestTables(t *testing.T) {
	words, s := three()
	for _, c := range []struct {
		f    []fn
		want api.Errno
	}{
		{some()[:2], api.OK}, {some()[:1], api.ErrState}, {[]fn{{}, {}}, api.ErrState}, {[]fn{{true, false}, {true, false, true}}, api.OK}, {[]fn{{true, true}, {true, true, true}}, api.ErrState},
		{[]fn{{false, false}, {false, false, false}}, api.OK}, {[]fn{{false, true}, {false, false, true}}, api.OK}, {[]fn{{false, true}, {true, true, true}}, api.ErrState}, {[]fn{{false, false}, {true, false, false}}, api.OK},
	} {
		if _, _, e := hold(t, made(t, words), table(t, c.f...), words, c.f, s, 0, 64); e != c.want {
			t.Errorf("P17.1: To of functions %v: %v, not %v", c.f, e, c.want)
		}
	}
}

// TestGreat has the greatest frames, and an arena of as many words as there may be.
func TestGreat(t *testing.T) {
	f := []fn{great(api.MaxSlots, 63, 64, 500), great(130, 65, 130), {}, great(64, 64), great(65, 65)}
	x, r := table(t, f...), rule(13)
	n := api.MaxPages * api.PageWords
	for _, c := range []struct {
		s     api.Stack
		lo, n int
		calls []int
		want  api.Errno
	}{
		{api.Stack{Lo: n / 2, Size: n / 2}, 0, n / 2, calls(f, &r, n/2), api.OK},
		{api.Stack{Lo: 0, Size: n / 2}, n / 2, n / 2, calls(f[:1], &r, n/4), api.OK},
		{api.Stack{Lo: 0, Size: n / 2}, n / 2, n / 4, calls(f[:1], &r, n/4), api.OK},
		{api.Stack{Lo: 0, Size: n / 2}, n / 2, n / 4, calls(f[:1], &r, n/4+1002), api.ErrRange},
		{api.Stack{Lo: 0, Size: n / 4}, n / 2, n / 2, make([]int, 3), api.OK},
		{api.Stack{Lo: 0, Size: n / 4}, n - 2048, 2048, []int{0, 0}, api.OK},
		{api.Stack{Lo: 0, Size: n / 4}, n - 1024, 1024, []int{0, 2, 2, 2}, api.OK},
		{api.Stack{Lo: 0, Size: n / 4}, n - 1024, 1024, []int{0, 1}, api.ErrRange},
		{api.Stack{Lo: 0, Size: n / 4}, n - 1023, 1024, []int{0}, api.ErrArg},
		{api.Stack{Lo: 0, Size: n}, 0, n, calls(f, &r, n), api.ErrRange},
	} {
		words := filled(n)
		c.s.SP = lay(words, f, &r, c.s.Lo+c.s.Size, c.calls...)
		a := made(t, words)
		before := row(t, a, x, c.s)
		_, to, e := hold(t, a, x, words, f, c.s, c.lo, c.n)
		if e != c.want {
			t.Errorf("P17.1: To(%v, %d, %d): %v, not %v", c.s, c.lo, c.n, e, c.want)
		}
		if e == api.OK && !equal(row(t, a, x, to), before) {
			t.Errorf("P17.2: To(%v, %d, %d) has other frames", c.s, c.lo, c.n)
		}
	}
}

// TestManyFrames has as many frames as fit, of no slots.
func TestManyFrames(t *testing.T) {
	f := []fn{{}}
	x, r := table(t, f...), rule(17)
	words := filled(1 << 16)
	s := api.Stack{Lo: 0, Size: 1 << 15, SP: lay(words, f, &r, 1<<15, make([]int, 1<<14)...)}
	if _, to, e := hold(t, made(t, words), x, words, f, s, 1<<15, 1<<15); e != api.OK || to.SP != 1<<15 {
		t.Errorf("P17.1: To of many frames: %v, %v", to, e)
	}
}

// TestSame has many stacks: what they have is the same behind a move, and when the elder stack's words are others.
func TestSame(t *testing.T) {
	x, r := table(t, some()...), rule(19)
	for range 3000 {
		words := filled(size)
		n := 16 << r.below(4)
		s := api.Stack{Lo: r.below(size - n + 1), Size: n}
		s.SP = lay(words, some(), &r, s.Lo+n, calls(some(), &r, r.below(n+1))...)
		a := made(t, words)
		before := row(t, a, x, s)
		_, to, e := hold(t, a, x, words, some(), s, r.below(size), 16<<r.below(4))
		if e != api.OK {
			continue
		}
		if !equal(row(t, a, x, to), before) || !equal(row(t, a, x, s), before) {
			t.Fatalf("P17.2: To(%v) = %v has other frames: %v, not %v", s, to, row(t, a, x, to), before)
		}
		a.Store(s.Lo, filled(n)...)
		if !equal(row(t, a, x, to), before) {
			t.Fatalf("P17.2: %v, moved to %v, is told by the elder one's words", s, to)
		}
	}
}

// TestRows has long rows of frames that are pushed, and return, of slots that are put, and of moves, each of which is told ahead.
func TestRows(t *testing.T) {
	f := some()
	x := table(t, f...)
	for seed := range rule(40) {
		r := rule(seed * 77)
		words := filled(4 * size)
		a := made(t, words)
		s := api.Stack{Lo: 512, Size: 32, SP: 544}
		moves := 0
		for range 400 {
			switch r.below(5) {
			case 0:
				link := s.SP
				if s.SP == s.Lo+s.Size {
					link = -1
				}
				if sp, e := frame.Push(a, x, s.Lo, s.SP, r.below(len(f)), link); e == api.OK {
					s.SP = sp
				}
			case 1:
				if l, _ := walk.Frames(a, x, s); len(l) > 1 && r.below(2) == 0 {
					s.SP = l[len(l)-2].At
				}
			case 2, 3:
				l, _ := walk.Frames(a, x, s)
				slots.Put(a, x, l, r.below(6), r.below(3), value(&r))
			default:
				words, _ = a.Row(0, a.Words())
				before := row(t, a, x, s)
				_, to, e := hold(t, a, x, words, f, s, r.below(4*size), 16<<r.below(5))
				if e != api.OK {
					continue
				}
				if !equal(row(t, a, x, to), before) {
					t.Fatalf("P17.2: seed %d: %v, moved to %v, has %v, not %v", seed, s, to, row(t, a, x, to), before)
				}
				// Whoever has the elder one's words next writes into them.
				a.Store(s.Lo, filled(s.Size)...)
				s = to
				moves++
			}
		}
		if moves < 10 {
			t.Errorf("seed %d: %d moves", seed, moves)
		}
	}
}

// value is nothing, a scalar that may be an address, or a reference.
func value(r *rule) api.Val {
	switch r.below(3) {
	case 0:
		return api.Val{}
	case 1:
		return api.Val{Kind: api.ValScalar, Bits: uint64(r.below(4 * size))}
	}
	return api.Val{Kind: api.ValRef, Depth: r.below(6), Slot: r.below(3)}
}

// TestThereAndBack has a stack that goes to and fro: its words are those it had.
func TestThereAndBack(t *testing.T) {
	words, s := three()
	a, x := made(t, words), table(t, some()...)
	at := s
	for _, c := range []api.Run{{Start: 0, Len: 16}, {Start: 128, Len: 128}, {Start: 13, Len: 32}, {Start: 64, Len: 64}} {
		to, e := move.To(a, x, at, c.Start, c.Len)
		if e != api.OK || move.By(at, c.Start, c.Len) != to.SP-at.SP {
			t.Fatalf("P17.1: To(%v, %v) = %v, %v", at, c, to, e)
		}
		at = to
	}
	got, _ := a.Row(115, 13)
	if at != s || !slices.Equal(got, words[115:128]) {
		t.Errorf("P17.2: there and back: %v, %x, not %v, %x", at, got, s, words[115:128])
	}
}

// TestByTable has numbers at their edges.
func TestByTable(t *testing.T) {
	for _, c := range []struct {
		s        api.Stack
		lo, n, w int
	}{
		{api.Stack{Lo: 0, Size: 16}, 32, 32, 48}, {api.Stack{Lo: 32, Size: 32}, 0, 16, -48}, {api.Stack{Lo: 32, Size: 32}, 32, 32, 0}, {api.Stack{Lo: 32, Size: 32}, 48, 16, 0}, {api.Stack{}, 0, 0, 0}, {api.Stack{}, 1, 0, 1}, {api.Stack{}, 0, 1, 1}, {api.Stack{Lo: 1}, 0, 0, -1}, {api.Stack{Size: 1}, 0, 0, -1}, {api.Stack{Lo: 3, Size: 7}, 5, 11, 6},
		{api.Stack{}, most, most, 2 * most}, {api.Stack{Lo: most, Size: most}, 0, 0, -2 * most}, {api.Stack{Lo: most, Size: most}, most, most - 1, -1}, {api.Stack{Lo: most}, 0, most, 0},
		{api.Stack{Lo: most + 1}, 0, 0, 0}, {api.Stack{Size: most + 1}, 0, 0, 0}, {api.Stack{}, most + 1, 0, 0}, {api.Stack{}, 0, most + 1, 0}, {api.Stack{Lo: -1}, 5, 5, 0}, {api.Stack{Size: -1}, 5, 5, 0}, {api.Stack{Lo: 5}, -1, 5, 0}, {api.Stack{Lo: 5}, 5, -1, 0}, {api.Stack{Lo: math.MinInt, Size: math.MinInt}, math.MaxInt, math.MaxInt, 0},
		// Where SP is, no end hangs on; but it is one of the stack's numbers.
		{api.Stack{Lo: 0, Size: 16, SP: 9}, 32, 32, 48}, {api.Stack{Lo: 0, Size: 16, SP: 99}, 32, 32, 48}, {api.Stack{Lo: 8, Size: 16, SP: 0}, 32, 32, 40}, {api.Stack{Lo: 0, Size: 16, SP: most}, 32, 32, 48},
		{api.Stack{Lo: 0, Size: 16, SP: -1}, 32, 32, 0}, {api.Stack{Lo: 0, Size: 0, SP: -1}, 0, 1, 0}, {api.Stack{Lo: 0, Size: 16, SP: most + 1}, 32, 32, 0}, {api.Stack{Lo: 0, Size: 16, SP: math.MinInt}, 32, 32, 0}, {api.Stack{Lo: 0, Size: 16, SP: math.MaxInt}, 32, 32, 0},
	} {
		if got := move.By(c.s, c.lo, c.n); got != c.w {
			t.Errorf("P17.1: By(%v, %d, %d) = %d, not %d", c.s, c.lo, c.n, got, c.w)
		}
	}
}

// plain tells whether all numbers are ones that are reckoned with.
func plain(l ...int) bool {
	for _, n := range l {
		if n < 0 || n > most {
			return false
		}
	}
	return true
}

// TestByEach has each four numbers of some.
func TestByEach(t *testing.T) {
	for _, lo := range numbers() {
		for _, n := range numbers() {
			for _, to := range numbers() {
				for _, m := range numbers() {
					want := 0
					if plain(lo, n, to, m) {
						want = (to - lo) + (m - n)
					}
					if got := move.By(api.Stack{Lo: lo, Size: n, SP: lo}, to, m); got != want {
						t.Fatalf("P17.1: By({%d %d}, %d, %d) = %d, not %d", lo, n, to, m, got, want)
					}
				}
			}
		}
	}
}

// TestBySP has each number as SP, beside each place and size.
func TestBySP(t *testing.T) {
	for _, sp := range numbers() {
		for _, to := range numbers() {
			for _, m := range numbers() {
				want := 0
				if plain(sp, to, m) {
					want = to + m - 48
				}
				if got := move.By(api.Stack{Lo: 32, Size: 16, SP: sp}, to, m); got != want {
					t.Fatalf("P17.1: By({32 16 %d}, %d, %d) = %d, not %d", sp, to, m, got, want)
				}
			}
		}
	}
}

// TestFitsTable has stacks that touch, that share, and that have no words.
func TestFitsTable(t *testing.T) {
	s := api.Stack{Lo: 16, Size: 16, SP: 20}
	for _, c := range []struct {
		s    api.Stack
		l    []api.Stack
		want bool
	}{
		{s, nil, true}, {s, []api.Stack{}, true}, {api.Stack{Lo: -1, Size: -1, SP: -1}, nil, true}, {api.Stack{Lo: math.MaxInt, Size: math.MaxInt}, nil, true}, {api.Stack{Lo: most + 1}, nil, true},
		{s, []api.Stack{{Lo: 0, Size: 16}, {Lo: 32, Size: 16}}, true}, {s, []api.Stack{{Lo: 0, Size: 17}}, false}, {s, []api.Stack{{Lo: 31, Size: 1}}, false}, {s, []api.Stack{s}, false}, {s, []api.Stack{{Lo: 20, Size: 4}}, false}, {s, []api.Stack{{Lo: 0, Size: 64}}, false}, {s, []api.Stack{{Lo: 16, Size: 1}}, false}, {s, []api.Stack{{Lo: 15, Size: 1}}, true}, {s, []api.Stack{{Lo: 32, Size: 1}}, true},
		{s, []api.Stack{{Lo: 20}}, true}, {s, []api.Stack{{Lo: 16}, {Lo: 32}, {}}, true}, {api.Stack{Lo: 20}, []api.Stack{s, {Lo: 0, Size: 64}, {Lo: 20}}, true}, {api.Stack{}, []api.Stack{{}}, true},
		{s, []api.Stack{{Lo: -16, Size: 16}}, false}, {s, []api.Stack{{Lo: 64, Size: -16}}, false}, {s, []api.Stack{{Lo: most + 1, Size: 16}}, false}, {s, []api.Stack{{Lo: 64, Size: most + 1}}, false}, {s, []api.Stack{{Lo: most, Size: most}}, true}, {s, []api.Stack{{Lo: 0, Size: most}}, false}, {s, []api.Stack{{Lo: 32, Size: most}}, true}, {s, []api.Stack{{Lo: -1}}, false}, {s, []api.Stack{{Lo: most}}, true}, {s, []api.Stack{{Lo: most + 1}}, false}, {s, []api.Stack{{Lo: math.MaxInt, Size: math.MaxInt}}, false}, {s, []api.Stack{{Lo: math.MinInt, Size: math.MaxInt}}, false},
		{api.Stack{Lo: -16, Size: 16}, []api.Stack{{Lo: 64, Size: 16}}, false}, {api.Stack{Lo: 16, Size: -1}, []api.Stack{{Lo: 64, Size: 16}}, false}, {api.Stack{Lo: most + 1}, []api.Stack{{}}, false}, {api.Stack{Lo: 0, Size: most + 1}, []api.Stack{{}}, false}, {api.Stack{Lo: most, Size: most}, []api.Stack{{Lo: 0, Size: most}}, true}, {api.Stack{Lo: most - 1, Size: most}, []api.Stack{{Lo: 0, Size: most}}, false}, {api.Stack{Lo: most, Size: most}, []api.Stack{{Lo: most, Size: 1}}, false},
		// Where SP is, no word hangs on.
		{api.Stack{Lo: 16, Size: 16, SP: -1}, []api.Stack{{Lo: 0, Size: 16, SP: 99}, {Lo: 32, Size: 16, SP: math.MinInt}}, true}, {api.Stack{Lo: 16, Size: 16, SP: 32}, []api.Stack{{Lo: 16, Size: 16, SP: 32}}, false}, {s, []api.Stack{{Lo: 64, Size: 16, SP: 17}}, true},
	} {
		if got := move.Fits(c.s, c.l...); got != c.want {
			t.Errorf("P17.1: Fits(%v, %v) = %v", c.s, c.l, got)
		}
	}
}

// TestFitsEach has all pairs of few words, told by the words one by one, and pairs of numbers at both ends of an int.
func TestFitsEach(t *testing.T) {
	for lo := range 9 {
		for n := range 9 {
			for at := range 18 {
				for m := range 18 {
					want := true
					for w := lo; w < lo+n; w++ {
						want = want && (w < at || w >= at+m)
					}
					if got := move.Fits(api.Stack{Lo: lo, Size: n}, api.Stack{Lo: at, Size: m}); got != want {
						t.Fatalf("P17.1: Fits({%d %d}, {%d %d}) = %v", lo, n, at, m, got)
					}
				}
			}
		}
	}
	for _, lo := range numbers() {
		for _, n := range numbers() {
			for _, at := range numbers() {
				for _, m := range numbers() {
					want := plain(lo, n, at, m) && (n == 0 || m == 0 || lo+n <= at || at+m <= lo)
					if got := move.Fits(api.Stack{Lo: lo, Size: n}, api.Stack{Lo: at, Size: m}); got != want {
						t.Fatalf("P17.1: Fits({%d %d}, {%d %d}) = %v", lo, n, at, m, got)
					}
				}
			}
		}
	}
}

// TestFitsMany has one that doesn't fit at each place of a list, which stays as it is, and the room behind its end.
func TestFitsMany(t *testing.T) {
	s := api.Stack{Lo: 64, Size: 64, SP: 70}
	l := []api.Stack{{Lo: 0, Size: 64}, {Lo: 128, Size: 32}, {Lo: 100}, {Lo: 128, Size: 32}, {Lo: 1000, Size: 2000, SP: 3}}
	for n := range len(l) + 1 {
		if !move.Fits(s, l[:n]...) {
			t.Errorf("P17.1: Fits(%v, %v) isn't true", s, l[:n])
		}
	}
	for _, x := range []api.Stack{s, {Lo: 127, Size: 1}, {Lo: 0, Size: 65}, {Lo: -1}, {Size: -1}, {Lo: most + 1}, {Lo: 70, Size: 3}} {
		for i := range len(l) + 1 {
			with := slices.Insert(slices.Clone(l), i, x)
			with = append(with, l...)
			kept := slices.Clone(with)
			if move.Fits(s, with[:len(l)+1]...) {
				t.Errorf("P17.1: Fits(%v, %v) is true", s, with[:len(l)+1])
			}
			if !slices.Equal(with, kept) {
				t.Fatalf("P0.4: Fits makes %v of %v", with, kept)
			}
		}
	}
}
