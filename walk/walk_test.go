package walk_test

import (
	"math"
	"slices"
	"testing"

	"shoring/api"
	"shoring/arena"
	"shoring/fns"
	"shoring/frame"
	"shoring/walk"
)

// The signatures are exact: another one doesn't compile here.
var (
	_ func(*arena.Arena, ...api.Stack) bool                              = walk.May
	_ func(*arena.Arena, *fns.Table, api.Stack) ([]api.Frame, api.Errno) = walk.Frames
	_ func(api.Stack) int                                                = walk.Used
	_ func(api.Stack) int                                                = walk.Room
)

// size is how many words an arena of 4 pages has.
const size = 256

// rule makes numbers one behind the other, that hang on the one it starts with alone.
type rule uint64

// next is the rule's next number.
func (r *rule) next() uint64 {
	*r = *r*6364136223846793005 + 1442695040888963407
	x := uint64(*r)
	return x ^ x>>29
}

// below is a number from 0 to n-1.
func (r *rule) below(n int) int { return int(r.next() >> 1 % uint64(n)) }

// numbers are those around the ends of an arena of 256 words, sizes of stacks and their neighbours, what is reckoned with, and both ends of an int.
func numbers() []int {
	l := []int{math.MinInt, math.MinInt + 1, math.MinInt + 16, math.MinInt + 256, -1 << 40, -1 << 32, -256, -17, -16, -15, 24, 48, 192, 208, 224, 239, 240, 241}
	for _, n := range []int{0, 8, 16, 32, 64, 128, 256, 512, 1 << 16, 1 << 31, 1 << 32, 1 << 40, 1 << 41, 1 << 62} {
		l = append(l, n-1, n, n+1)
	}
	return append(l, math.MaxInt-256, math.MaxInt-16, math.MaxInt-15, math.MaxInt-1, math.MaxInt)
}

// sizes are how many slots the functions of a table have that is asked.
func sizes() []int { return []int{3, 0, 1, 14, 30, 252, 1000} }

// table is one of functions of these sizes; the first slot of some is a pointer slot, which a walk doesn't ask.
func table(t *testing.T, l ...int) *fns.Table {
	t.Helper()
	var f []api.Fn
	for i, n := range l {
		f = append(f, api.Fn{Size: n, Ptrs: []uint64{uint64(min(n, i%2))}})
	}
	x, e := fns.New(f...)
	if e != api.OK {
		t.Fatalf("a table of %v: %v", l, e)
	}
	return x
}

// made is an arena of these words, one at each of its addresses.
func made(t *testing.T, words []uint64) *arena.Arena {
	t.Helper()
	a, e := arena.New(len(words) / api.PageWords)
	if e != api.OK || a.Store(0, words...) != api.OK {
		t.Fatalf("an arena of %d words: %v", len(words), e)
	}
	return a
}

// filled are words, none of which is 0, or a number of an arena or a table.
func filled(n int) []uint64 {
	l := make([]uint64, n)
	r := rule(3)
	for at := range l {
		l[at] = r.next() | 1<<50
	}
	return l
}

// lay writes the frames of these functions, the bottom one first, into words that a stack's end stands behind: its SP.
func lay(words []uint64, l []int, end int, calls ...int) int {
	sp := end
	for _, f := range calls {
		at := sp - 2 - l[f]
		words[at], words[at+1] = uint64(sp)+1, uint64(f)+1
		if sp == end {
			words[at] = 0
		}
		for i := range l[f] {
			// What stands in slots isn't asked: here they are like heads of frames.
			words[at+2+i] = words[at+i%2]
		}
		sp = at
	}
	return sp
}

// stands tells whether May should hold of a stack, in an arena of so many words.
func stands(n int, s api.Stack) bool {
	for words := 16; words <= n; words *= 2 {
		if s.Size != words || s.Lo < 0 || s.Lo > n-words {
			continue
		}
		return s.SP >= s.Lo && s.SP-s.Lo <= words
	}
	return false
}

// frames are what Frames should answer: told from the words alone, one by one, from SP on.
func frames(words []uint64, l []int, s api.Stack) ([]api.Frame, api.Errno) {
	if !stands(len(words), s) {
		return nil, api.ErrArg
	}
	var got []api.Frame
	rest := words[s.SP : s.Lo+s.Size]
	for at := s.SP; len(rest) > 0; {
		if len(rest) < 2 || rest[1] == 0 || rest[1] > uint64(len(l)) {
			return nil, api.ErrState
		}
		n := 2 + l[rest[1]-1]
		if n > len(rest) || n == len(rest) && rest[0] != 0 || n < len(rest) && rest[0] != uint64(at+n+1) {
			return nil, api.ErrState
		}
		x := api.Frame{At: at, Fn: int(rest[1]) - 1, Link: at + n}
		if n == len(rest) {
			x.Link = -1
		}
		got = append([]api.Frame{x}, got...)
		rest, at = rest[n:], at+n
	}
	return got, api.OK
}

// hold holds what Frames answers of a stack, and May.
func hold(t *testing.T, a *arena.Arena, x *fns.Table, words []uint64, l []int, s api.Stack) ([]api.Frame, api.Errno) {
	t.Helper()
	got, e := walk.Frames(a, x, s)
	want, errno := frames(words, l, s)
	if e != errno || !slices.Equal(got, want) {
		t.Fatalf("P15.1: Frames(%v) = %v, %v, not %v, %v", s, got, e, want, errno)
	}
	if may := walk.May(a, s); may != (errno != api.ErrArg) {
		t.Fatalf("P15.1: May(%v) = %v", s, may)
	}
	return got, e
}

// same asks whether an arena's words are these.
func same(t *testing.T, a *arena.Arena, words []uint64, what ...any) {
	t.Helper()
	got, e := a.Row(0, a.Words())
	if e != api.OK || !slices.Equal(got, words) {
		t.Fatalf("P0.3, P0.4: %v: the words are %x, %v, not %x", what, got, e, words)
	}
}

// TestExample is the chapter's.
func TestExample(t *testing.T) {
	a, s := made(t, filled(size)), api.Stack{Lo: 32, Size: 16, SP: 48}
	if l, e := walk.Frames(a, table(t, 3), s); len(l) != 0 || e != api.OK {
		t.Errorf("P15.1: Frames of a stack without frames: %v, %v", l, e)
	}
	if walk.Room(s) != 16 || walk.Used(s) != 0 || !walk.May(a, s) {
		t.Errorf("P15.1: a stack without frames: room %d, used %d, may %v", walk.Room(s), walk.Used(s), walk.May(a, s))
	}
}

func TestMayTable(t *testing.T) {
	a := made(t, filled(size))
	for _, c := range []struct {
		s    api.Stack
		want bool
	}{
		{api.Stack{Lo: 0, Size: 16, SP: 0}, true}, {api.Stack{Lo: 0, Size: 16, SP: 16}, true}, {api.Stack{Lo: 0, Size: 16, SP: 7}, true}, {api.Stack{Lo: 240, Size: 16, SP: 256}, true}, {api.Stack{Lo: 240, Size: 16, SP: 240}, true},
		{api.Stack{Lo: 0, Size: 256, SP: 0}, true}, {api.Stack{Lo: 0, Size: 256, SP: 256}, true}, {api.Stack{Lo: 3, Size: 128, SP: 100}, true}, {api.Stack{Lo: 128, Size: 128, SP: 129}, true}, {api.Stack{Lo: 1, Size: 32, SP: 33}, true},
		{api.Stack{}, false}, {api.Stack{Lo: 16, Size: 16, SP: 15}, false}, {api.Stack{Lo: 16, Size: 16, SP: 33}, false}, {api.Stack{Lo: 16, Size: 16, SP: 0}, false}, {api.Stack{Lo: 0, Size: 16, SP: -1}, false}, {api.Stack{Lo: 0, Size: 16, SP: 17}, false},
		{api.Stack{Lo: 0, Size: 0, SP: 0}, false}, {api.Stack{Lo: 0, Size: 1, SP: 0}, false}, {api.Stack{Lo: 0, Size: 8, SP: 0}, false}, {api.Stack{Lo: 0, Size: 15, SP: 0}, false}, {api.Stack{Lo: 0, Size: 17, SP: 0}, false}, {api.Stack{Lo: 0, Size: 24, SP: 0}, false}, {api.Stack{Lo: 0, Size: -16, SP: 0}, false}, {api.Stack{Lo: 0, Size: 48, SP: 20}, false}, {api.Stack{Lo: 0, Size: 255, SP: 0}, false},
		{api.Stack{Lo: -1, Size: 16, SP: 0}, false}, {api.Stack{Lo: -16, Size: 16, SP: 0}, false}, {api.Stack{Lo: -16, Size: 32, SP: 4}, false}, {api.Stack{Lo: 241, Size: 16, SP: 250}, false}, {api.Stack{Lo: 256, Size: 16, SP: 256}, false}, {api.Stack{Lo: 1, Size: 256, SP: 1}, false}, {api.Stack{Lo: 0, Size: 512, SP: 0}, false},
		{api.Stack{Lo: 0, Size: 1 << 62, SP: 0}, false}, {api.Stack{Lo: 1 << 62, Size: 1 << 62, SP: 1 << 62}, false}, {api.Stack{Lo: math.MaxInt, Size: 16, SP: math.MinInt + 5}, false}, {api.Stack{Lo: math.MaxInt - 15, Size: 16, SP: math.MaxInt}, false}, {api.Stack{Lo: math.MaxInt, Size: 16, SP: math.MaxInt}, false},
		{api.Stack{Lo: 0, Size: 16, SP: math.MaxInt}, false}, {api.Stack{Lo: 0, Size: 16, SP: math.MinInt}, false}, {api.Stack{Lo: math.MinInt, Size: 16, SP: math.MinInt}, false}, {api.Stack{Lo: 0, Size: math.MinInt, SP: 0}, false}, {api.Stack{Lo: 0, Size: math.MaxInt, SP: 0}, false}, {api.Stack{Lo: 1, Size: math.MaxInt, SP: 1}, false},
	} {
		if got := walk.May(a, c.s); got != c.want {
			t.Errorf("P15.1: May(%v) = %v", c.s, got)
		}
	}
}

// TestMayOfEach has each three numbers of some.
func TestMayOfEach(t *testing.T) {
	a := made(t, filled(size))
	for _, lo := range numbers() {
		for _, words := range numbers() {
			for _, sp := range numbers() {
				s := api.Stack{Lo: lo, Size: words, SP: sp}
				if got := walk.May(a, s); got != stands(size, s) {
					t.Fatalf("P15.1: May(%v) = %v", s, got)
				}
				if l, e := walk.Frames(a, nil, s); len(l) != 0 || (e == api.ErrArg) == stands(size, s) {
					t.Fatalf("P15.1: Frames(%v) of no table: %v, %v", s, l, e)
				}
			}
		}
	}
}

// TestMayInEach has arenas of some pages, and all stacks at their ends.
func TestMayInEach(t *testing.T) {
	for _, pages := range []int{api.MinPages, 5, 7, 64, 1000, api.MaxPages} {
		n := pages * api.PageWords
		a, _ := arena.New(pages)
		for words := 16; words <= 2*n; words *= 2 {
			for d := -2; d <= 2; d++ {
				for _, sp := range []int{n - words + d - 1, n - words + d, n, n + d, n + 3} {
					s := api.Stack{Lo: n - words + d, Size: words, SP: sp}
					if got := walk.May(a, s); got != stands(n, s) {
						t.Fatalf("P15.1: May(%v) = %v in %d words", s, got, n)
					}
				}
			}
		}
	}
}

// TestMayOfMany has one that is none, at each place of a list of stacks.
func TestMayOfMany(t *testing.T) {
	a := made(t, filled(size))
	if !walk.May(a) || !walk.May(a, []api.Stack{}...) || !walk.May(nil) {
		t.Error("P15.1: May of none isn't true")
	}
	l := []api.Stack{{Lo: 0, Size: 16, SP: 3}, {Lo: 16, Size: 32, SP: 48}, {Lo: 0, Size: 16, SP: 3}, {Lo: 8, Size: 128, SP: 40}, {Lo: 0, Size: 256, SP: 0}}
	for n := range len(l) + 1 {
		if !walk.May(a, l[:n]...) {
			t.Errorf("P15.1: May(%v) isn't true", l[:n])
		}
	}
	for _, s := range []api.Stack{{}, {Lo: 0, Size: 16, SP: 17}, {Lo: 0, Size: 17, SP: 3}, {Lo: 250, Size: 16, SP: 251}, {Lo: -1, Size: 16, SP: 3}, {Lo: 16, Size: 16, SP: 3}} {
		for i := range len(l) + 1 {
			with := slices.Insert(slices.Clone(l), i, s)
			kept := slices.Clone(with)
			if walk.May(a, with...) {
				t.Errorf("P15.1: May(%v) is true", with)
			}
			if !slices.Equal(with, kept) {
				t.Fatalf("P0.4: May makes %v of %v", with, kept)
			}
		}
	}
}

// TestFramesTable has frames told by their words, of functions of 3 and of no slots, in a stack of the words 32 to 47.
func TestFramesTable(t *testing.T) {
	x := table(t, 3, 0)
	one := []api.Frame{{At: 43, Fn: 0, Link: -1}}
	three := []api.Frame{{At: 43, Fn: 0, Link: -1}, {At: 41, Fn: 1, Link: 43}, {At: 36, Fn: 0, Link: 41}}
	for _, c := range []struct {
		what  string
		words []uint64
		want  []api.Frame
		e     api.Errno
	}{
		{"none", nil, nil, api.OK},
		{"one", []uint64{0, 1, 0, 0, 0}, one, api.OK},
		{"one, with slots", []uint64{0, 1, 5, math.MaxUint64, 9}, one, api.OK},
		{"one of no slots", []uint64{0, 2}, []api.Frame{{At: 46, Fn: 1, Link: -1}}, api.OK},
		{"two of no slots", []uint64{47, 2, 0, 2}, []api.Frame{{At: 46, Fn: 1, Link: -1}, {At: 44, Fn: 1, Link: 46}}, api.OK},
		{"three", []uint64{42, 1, 7, 7, 7, 44, 2, 0, 1, 7, 7, 7}, three, api.OK},
		{"half a head", []uint64{0}, nil, api.ErrState},
		{"half a head, whose other half stands behind the end", []uint64{49}, nil, api.ErrState},
		{"no function", []uint64{0, 0}, nil, api.ErrState},
		{"a function that isn't there", []uint64{0, 3}, nil, api.ErrState},
		{"a great function", []uint64{0, 1 << 63}, nil, api.ErrState},
		{"a greater one", []uint64{0, math.MaxUint64}, nil, api.ErrState},
		{"a function as 32 bits", []uint64{0, 1<<32 + 2}, nil, api.ErrState},
		{"too few words", []uint64{0, 1, 0, 0}, nil, api.ErrState},
		{"a word too many", []uint64{0, 1, 0, 0, 0, 0}, nil, api.ErrState},
		{"a word too many, and a link", []uint64{48, 1, 0, 0, 0, 0}, nil, api.ErrState},
		{"the bottom one has the end for a link", []uint64{49, 1, 0, 0, 0}, nil, api.ErrState},
		{"the bottom one has itself for a link", []uint64{44, 1, 0, 0, 0}, nil, api.ErrState},
		{"the bottom one has a link that isn't there", []uint64{257, 1, 0, 0, 0}, nil, api.ErrState},
		{"the bottom one has a great link", []uint64{math.MaxUint64, 1, 0, 0, 0}, nil, api.ErrState},
		{"two bottom ones", []uint64{0, 2, 0, 2}, nil, api.ErrState},
		{"a link to itself", []uint64{45, 2, 0, 2}, nil, api.ErrState},
		{"a link to a slot", []uint64{42, 1, 0, 1, 0, 0, 2}, nil, api.ErrState},
		{"a link that leaves one out", []uint64{47, 2, 47, 2, 0, 2}, nil, api.ErrState},
		{"a link towards the top", []uint64{45, 2, 43, 2, 0, 2}, nil, api.ErrState},
		{"a link to the stack's first word", []uint64{33, 2, 0, 2}, nil, api.ErrState},
		{"a link to 0", []uint64{1, 2, 0, 2}, nil, api.ErrState},
		{"a link to the end", []uint64{49, 2, 0, 2}, nil, api.ErrState},
		{"a link less 1", []uint64{46, 2, 0, 2}, nil, api.ErrState},
		{"a link and 1", []uint64{48, 2, 0, 2}, nil, api.ErrState},
		{"a great link", []uint64{1<<63 + 47, 2, 0, 2}, nil, api.ErrState},
		{"a link as 32 bits", []uint64{1<<32 + 47, 2, 0, 2}, nil, api.ErrState},
		{"words ahead of the frames", []uint64{0, 42, 1, 7, 7, 7, 44, 2, 0, 1, 7, 7, 7}, nil, api.ErrState},
		{"the top one is wrong", []uint64{41, 1, 7, 7, 7, 44, 2, 0, 1, 7, 7, 7}, nil, api.ErrState},
		{"the middle one is wrong", []uint64{42, 1, 7, 7, 7, 45, 2, 0, 1, 7, 7, 7}, nil, api.ErrState},
		{"the middle one has another function", []uint64{42, 1, 7, 7, 7, 44, 1, 0, 1, 7, 7, 7}, nil, api.ErrState},
		{"the bottom one is wrong", []uint64{42, 1, 7, 7, 7, 44, 2, 0, 3, 7, 7, 7}, nil, api.ErrState},
		{"the bottom one has another function", []uint64{42, 1, 7, 7, 7, 44, 2, 0, 2, 7, 7, 7}, nil, api.ErrState},
		{"the bottom one stands behind the end, too", []uint64{46, 2, 0, 1}, nil, api.ErrState},
	} {
		words := filled(size)
		// Behind the end stand frames, too: another stack's.
		lay(words, []int{3, 0}, 64, 1, 1, 1, 0, 0, 1)
		s := api.Stack{Lo: 32, Size: 16, SP: 48 - len(c.words)}
		copy(words[s.SP:], c.words)
		a := made(t, words)
		if l, e := walk.Frames(a, x, s); e != c.e || !slices.Equal(l, c.want) {
			t.Errorf("P15.1: %s: %v, %v, not %v, %v", c.what, l, e, c.want, c.e)
		}
		same(t, a, words, c.what)
		hold(t, a, x, words, []int{3, 0}, s)
	}
}

// TestErrorsInOrder has numbers that are no stack's, over words that are no frames.
func TestErrorsInOrder(t *testing.T) {
	a, x := made(t, filled(size)), table(t, 3)
	for _, s := range []api.Stack{{Lo: 0, Size: 16, SP: 17}, {Lo: 0, Size: 15, SP: 3}, {Lo: 245, Size: 16, SP: 250}, {Lo: -1, Size: 16, SP: 5}, {Lo: 0, Size: 512, SP: 5}} {
		if l, e := walk.Frames(a, x, s); len(l) != 0 || e != api.ErrArg {
			t.Errorf("P0.2: Frames(%v) = %v, %v", s, l, e)
		}
	}
	if l, e := walk.Frames(a, x, api.Stack{Lo: 0, Size: 16, SP: 15}); len(l) != 0 || e != api.ErrState {
		t.Errorf("P15.1: Frames over other words: %v, %v", l, e)
	}
}

// TestEachStack has stacks of each Lo, Size and SP, over an arena full of frames.
func TestEachStack(t *testing.T) {
	words := filled(size)
	l := sizes()
	for _, end := range []int{256, 208, 192, 128, 96, 64, 48} {
		lay(words, l, end, 1, 0, 2, 1)
	}
	lay(words, l, 32, 3, 1, 0, 1, 2, 1)
	a, x := made(t, words), table(t, l...)
	met := 0
	for words16 := 16; words16 <= size; words16 *= 2 {
		for lo := -1; lo <= size-words16+1; lo++ {
			for sp := lo - 1; sp <= lo+words16+1; sp++ {
				if got, _ := hold(t, a, x, words, l, api.Stack{Lo: lo, Size: words16, SP: sp}); len(got) > 0 {
					met++
				}
			}
		}
	}
	same(t, a, words, "Frames of each stack")
	if met < 100 {
		t.Errorf("only %d of these stacks have frames", met)
	}
}

// TestEachWord has one word of frames changed, in each way of some, and what stands beside them, too.
func TestEachWord(t *testing.T) {
	l := sizes()
	x := table(t, l...)
	for _, calls := range [][]int{{0}, {1}, {1, 1}, {0, 1, 0}, {2, 0, 1, 2}, {1, 0, 1, 1, 0}} {
		words := filled(size)
		s := api.Stack{Lo: 64, Size: 32}
		s.SP = lay(words, l, 96, calls...)
		lay(words, l, 128, 0, 0, 3, 1, 1)
		a := made(t, words)
		if got, e := hold(t, a, x, words, l, s); e != api.OK || len(got) != len(calls) {
			t.Fatalf("P15.1: frames of %v: %v, %v", calls, got, e)
		}
		for at := 60; at < 104; at++ {
			kept := words[at]
			for _, w := range []uint64{0, 1, 2, 3, 4, 7, 8, kept - 1, kept + 1, kept | 1<<63, kept | 1<<32, kept | 1<<62, uint64(at), uint64(at) + 1, uint64(s.SP) + 1, 65, 96, 97, 98, 256, 257, 258, math.MaxInt, math.MaxUint64} {
				words[at] = w
				a.Store(at, w)
				hold(t, a, x, words, l, s)
			}
			words[at] = kept
			a.Store(at, kept)
		}
		hold(t, a, x, words, l, s)
	}
}

// TestSmallWords has words of which many are heads of frames, or nearly so, and asks for each stack of 16 and 32 words.
func TestSmallWords(t *testing.T) {
	r := rule(11)
	l := []int{0, 1, 3}
	x := table(t, l...)
	found := map[api.Errno]int{}
	for range 60 {
		words := make([]uint64, size)
		for at := 0; at < size; at++ {
			switch r.below(9) {
			case 0:
				words[at] = r.next() % 5
			case 1:
				words[at] = 0
			default:
				words[at] = uint64(at + 3 + r.below(3))
				if r.below(3) == 0 {
					words[at] = 0
				}
				if at+1 < size {
					at++
					words[at] = 1 + r.next()%3
				}
			}
		}
		a := made(t, words)
		for lo := range size {
			for sp := lo; sp <= lo+16; sp++ {
				_, e := hold(t, a, x, words, l, api.Stack{Lo: lo, Size: 16, SP: sp})
				found[e]++
			}
			hold(t, a, x, words, l, api.Stack{Lo: lo, Size: 32, SP: lo + r.below(33)})
		}
		same(t, a, words, "Frames")
	}
	if found[api.OK] < 5000 || found[api.ErrState] < 5000 || found[api.ErrArg] < 500 {
		t.Errorf("what was answered: %v", found)
	}
}

// TestPushedIsOneMore pushes frames in several stacks, next to one another, and asks for all of them behind each push.
func TestPushedIsOneMore(t *testing.T) {
	r := rule(14)
	for range 60 {
		a, l := made(t, filled(size)), []int{r.below(4), r.below(20), 0, 40}
		x := table(t, l...)
		all := []api.Stack{{Lo: 0, Size: 32, SP: 32}, {Lo: 32, Size: 16, SP: 48}, {Lo: 48, Size: 64, SP: 112}, {Lo: 112, Size: 128, SP: 240}, {Lo: 240, Size: 16, SP: 256}}
		want := make([][]api.Frame, len(all))
		for range 50 {
			i, f := r.below(len(all)), r.below(len(l))
			s, link := all[i], -1
			if len(want[i]) > 0 {
				link = s.SP
			}
			at, e := frame.Push(a, x, s.Lo, s.SP, f, link)
			if room := walk.Room(s); (e == api.OK) != (x.Words(f) <= room) {
				t.Fatalf("P15.1: a frame of %d words, with room for %d: %v", x.Words(f), room, e)
			}
			if e == api.OK {
				want[i] = append(want[i], api.Frame{At: at, Fn: f, Link: link})
				all[i].SP = at
			}
			for k, s := range all {
				got, e := walk.Frames(a, x, s)
				if e != api.OK || !slices.Equal(got, want[k]) {
					t.Fatalf("P15.2: Frames(%v) = %v, %v, not %v", s, got, e, want[k])
				}
				holdDepths(t, x, s, got)
			}
		}
	}
}

// holdDepths asks whether frames stand one directly behind the other, from the stack's end to SP, and take the words that are used.
func holdDepths(t *testing.T, x *fns.Table, s api.Stack, l []api.Frame) {
	t.Helper()
	behind, words := s.Lo+s.Size, 0
	for depth, y := range l {
		if frame.End(x, y) != behind || (depth == 0) != (y.Link < 0) || depth > 0 && y.Link != behind {
			t.Fatalf("P15.1: of %v, the depth %d doesn't stand ahead of %d", l, depth, behind)
		}
		behind, words = y.At, words+x.Words(y.Fn)
	}
	if behind != s.SP || words != walk.Used(s) || words+walk.Room(s) != s.Size {
		t.Fatalf("P15.1: the frames of %v take %d words, used are %d, left %d", s, words, walk.Used(s), walk.Room(s))
	}
}

// TestManyFrames has the greatest stack that an arena has room for full of the least frames, and of the greatest ones.
func TestManyFrames(t *testing.T) {
	l := []int{0, 1000, 22}
	x := table(t, l...)
	n := api.MaxPages * api.PageWords
	words := filled(n)
	least := api.Stack{Lo: 0, Size: n, SP: lay(words, l, n, make([]int, n/2)...)}
	a := made(t, words)
	got, e := walk.Frames(a, x, least)
	if e != api.OK || len(got) != n/2 || got[0] != (api.Frame{At: n - 2, Link: -1}) || got[n/2-1] != (api.Frame{At: 0, Link: 2}) {
		t.Fatalf("P15.1: %d frames of no slots, %v", len(got), e)
	}
	holdDepths(t, x, least, got)
	var calls []int
	for range 65 {
		calls = append(calls, 1)
	}
	great := api.Stack{Lo: n / 2, Size: n / 2, SP: lay(words, l, n, calls[:32]...)}
	a = made(t, words)
	if got, e := hold(t, a, x, words, l, great); e != api.OK || len(got) != 32 {
		t.Fatalf("P15.1: %d frames of 1000 slots, %v", len(got), e)
	}
	all := api.Stack{Lo: 0, Size: n, SP: lay(words, l, n, calls...)}
	a = made(t, words)
	if got, e := hold(t, a, x, words, l, all); e != api.OK || len(got) != 65 || walk.Room(all) != n-65*1002 {
		t.Fatalf("P15.1: %d frames of 1000 slots, %v, room %d", len(got), e, walk.Room(all))
	}
}

// TestEachFn has a frame of each function that a table has at most.
func TestEachFn(t *testing.T) {
	l := make([]int, api.MaxFns)
	calls := make([]int, api.MaxFns)
	for f := range l {
		l[f], calls[f] = f*7%30, (f*37+11)%api.MaxFns
	}
	x, words := table(t, l...), filled(64*api.PageWords)
	s := api.Stack{Lo: 2048, Size: 2048, SP: lay(words, l, 4096, calls...)}
	a := made(t, words)
	got, e := hold(t, a, x, words, l, s)
	if e != api.OK || len(got) != len(calls) {
		t.Fatalf("P15.1: %d frames, %v, not %d", len(got), e, len(calls))
	}
	for depth, f := range calls {
		if got[depth].Fn != f {
			t.Errorf("P15.1: the depth %d is of the function %d, not %d", depth, got[depth].Fn, f)
		}
	}
	// Another table has functions of other sizes: these words aren't its frames.
	if got, e := walk.Frames(a, table(t, l[1:]...), s); len(got) != 0 || e != api.ErrState {
		t.Errorf("P15.1: frames of another table: %v, %v", got, e)
	}
}

// TestNilArena has no words: no stack stands in it.
func TestNilArena(t *testing.T) {
	x := table(t, 3)
	for _, lo := range numbers() {
		for _, words := range numbers() {
			for _, sp := range []int{lo, 0, words, math.MinInt, math.MaxInt} {
				s := api.Stack{Lo: lo, Size: words, SP: sp}
				if l, e := walk.Frames(nil, x, s); len(l) != 0 || e != api.ErrArg || walk.May(nil, s) {
					t.Fatalf("P15.1: Frames(%v) of no arena: %v, %v", s, l, e)
				}
			}
		}
	}
	if l, e := walk.Frames(nil, nil, api.Stack{}); len(l) != 0 || e != api.ErrArg {
		t.Errorf("P15.1: Frames of nothing: %v, %v", l, e)
	}
}

// TestNilTable has no functions: only a stack without frames has its frames.
func TestNilTable(t *testing.T) {
	words := filled(size)
	sp := lay(words, []int{3, 0}, 64, 0, 1)
	a := made(t, words)
	for at := 48; at <= 64; at++ {
		want := api.ErrState
		if at == 64 {
			want = api.OK
		}
		if l, e := walk.Frames(a, nil, api.Stack{Lo: 48, Size: 16, SP: at}); len(l) != 0 || e != want {
			t.Errorf("P15.1: Frames of no table, SP %d (frames from %d on): %v, %v", at, sp, l, e)
		}
	}
}

func TestReckonedTable(t *testing.T) {
	const most = 1 << 40
	for _, c := range []struct {
		s          api.Stack
		used, room int
	}{
		{api.Stack{}, 0, 0}, {api.Stack{Lo: 32, Size: 16, SP: 38}, 10, 6}, {api.Stack{Lo: 32, Size: 16, SP: 32}, 16, 0}, {api.Stack{Lo: 32, Size: 16, SP: 48}, 0, 16},
		{api.Stack{Lo: 32, Size: 16, SP: 49}, 0, 17}, {api.Stack{Lo: 32, Size: 16, SP: 1000}, 0, 968}, {api.Stack{Lo: 32, Size: 16, SP: 31}, 17, 0}, {api.Stack{Lo: 32, Size: 16, SP: 0}, 48, 0},
		{api.Stack{Lo: 5, Size: 7, SP: 9}, 3, 4}, {api.Stack{Lo: 5, SP: 9}, 0, 4}, {api.Stack{Size: 1}, 1, 0}, {api.Stack{SP: 1}, 0, 1}, {api.Stack{Lo: 1}, 1, 0},
		{api.Stack{Lo: most, Size: most}, 2 * most, 0}, {api.Stack{Lo: most, Size: most, SP: most}, most, 0}, {api.Stack{SP: most}, 0, most}, {api.Stack{Size: most, SP: 1}, most - 1, 1}, {api.Stack{Lo: most, SP: 1}, most - 1, 0},
		{api.Stack{Lo: most + 1, Size: 16, SP: 5}, 0, 0}, {api.Stack{Lo: 0, Size: most + 1, SP: 5}, 0, 0}, {api.Stack{Lo: 0, Size: 16, SP: most + 1}, 0, 0},
		{api.Stack{Lo: -1, Size: 16, SP: 5}, 0, 0}, {api.Stack{Lo: 0, Size: -1, SP: 5}, 0, 0}, {api.Stack{Lo: 9, Size: 16, SP: -1}, 0, 0}, {api.Stack{Lo: -9, Size: 16, SP: -5}, 0, 0},
		{api.Stack{Lo: math.MaxInt, Size: math.MaxInt, SP: 1}, 0, 0}, {api.Stack{Lo: math.MinInt, Size: 16, SP: math.MaxInt}, 0, 0}, {api.Stack{Lo: 16, Size: 16, SP: math.MinInt}, 0, 0}, {api.Stack{Lo: math.MinInt, SP: math.MinInt}, 0, 0},
	} {
		if got := walk.Used(c.s); got != c.used {
			t.Errorf("P15.1: Used(%v) = %d, not %d", c.s, got, c.used)
		}
		if got := walk.Room(c.s); got != c.room {
			t.Errorf("P15.1: Room(%v) = %d, not %d", c.s, got, c.room)
		}
	}
}

// TestReckonedOfEach has each three numbers of some.
func TestReckonedOfEach(t *testing.T) {
	for _, lo := range numbers() {
		for _, words := range numbers() {
			for _, sp := range numbers() {
				s, used, room := api.Stack{Lo: lo, Size: words, SP: sp}, 0, 0
				if !slices.ContainsFunc([]int{lo, words, sp}, func(n int) bool { return n < 0 || n > 1<<40 }) {
					used, room = max(0, lo-sp+words), max(0, sp-lo)
				}
				if walk.Used(s) != used || walk.Room(s) != room {
					t.Fatalf("P15.1: of %v used are %d, left %d, not %d, %d", s, walk.Used(s), walk.Room(s), used, room)
				}
			}
		}
	}
}

// TestAnsweredIsNew writes into what was answered: no later call tells it.
func TestAnsweredIsNew(t *testing.T) {
	l := []int{3, 0}
	words := filled(size)
	s := api.Stack{Lo: 32, Size: 32, SP: lay(words, l, 64, 0, 1, 1, 0)}
	a, x := made(t, words), table(t, l...)
	one, _ := walk.Frames(a, x, s)
	two, _ := walk.Frames(a, x, s)
	kept := slices.Clone(two)
	for i := range one {
		one[i] = api.Frame{At: 1, Fn: 2, Link: 3}
	}
	// The room behind an answer's end is written into, too.
	for i := range one[:cap(one)] {
		one[:cap(one)][i].At = 5
	}
	if !slices.Equal(two, kept) {
		t.Errorf("P0.4: %v was answered, and is %v now", kept, two)
	}
	hold(t, a, x, words, l, s)
	same(t, a, words, "an answer that was written into")
}

// TestNothingIsKept changes words, tables and arenas between calls: each answers as it stands then.
func TestNothingIsKept(t *testing.T) {
	l, m := []int{3, 0}, []int{0, 3}
	words, others := filled(size), filled(2*size)
	s := api.Stack{Lo: 32, Size: 32}
	s.SP = lay(words, l, 64, 0, 1, 1, 0)
	lay(others, m, 64, 1, 0, 0, 1)
	a, b, x, y := made(t, words), made(t, others), table(t, l...), table(t, m...)
	for range 3 {
		hold(t, a, x, words, l, s)
		hold(t, b, y, others, m, s)
		hold(t, a, y, words, m, s)
		hold(t, b, x, others, l, s)
		words[s.SP]++
		a.Store(s.SP, words[s.SP])
		if _, e := hold(t, a, x, words, l, s); e != api.ErrState {
			t.Errorf("P15.1: a link that was changed: %v", e)
		}
		words[s.SP]--
		a.Store(s.SP, words[s.SP])
		hold(t, a, x, words, l, api.Stack{Lo: 32, Size: 32, SP: s.SP + 5})
	}
	same(t, a, words, "Frames")
	same(t, b, others, "Frames")
}
