package chain_test

import (
	"math"
	"slices"
	"testing"

	"shoring/api"
	"shoring/arena"
	"shoring/chain"
)

// The signatures are exact: another one doesn't compile here.
var (
	_ func(*arena.Arena, api.Chain) ([]int, api.Errno)             = chain.List
	_ func(*arena.Arena, ...api.Chain) bool                        = chain.Right
	_ func(*arena.Arena, api.Chain, ...int) (api.Chain, api.Errno) = chain.Push
	_ func(*arena.Arena, api.Chain) (api.Chain, int, api.Errno)    = chain.Pop
	_ func(*arena.Arena, api.Chain, int) (api.Chain, api.Errno)    = chain.Remove
)

// size is how many words an arena of 4 pages has.
const size = 256

// rule makes numbers one behind the other, that hang on the one it starts with alone.
type rule uint64

// next is the rule's next number.
func (r *rule) next() uint64 {
	*r = *r*6364136223846793005 + 1442695040888963407
	x := uint64(*r)
	return x ^ x>>29
}

// below is a number from 0 to n-1.
func (r *rule) below(n int) int { return int(r.next() >> 1 % uint64(n)) }

// of is a chain of its Head and its Len.
func of(head, n int) api.Chain { return api.Chain{Head: head, Len: n} }

// numbers are those around the ends of an arena of 256 words, around words, and both ends of an int.
func numbers() []int {
	l := []int{math.MinInt, math.MinInt + 1, math.MinInt + 256, math.MinInt + 257, -1 << 32, -1 << 31, -257, -256, -64, -63, -16}
	for _, n := range []int{0, 5, 9, 16, 64, 256, 65536, 1 << 31, 1 << 32, 1 << 58, 1 << 62} {
		for d := -2; d <= 2; d++ {
			l = append(l, n+d)
		}
	}
	return append(l, math.MaxInt-256, math.MaxInt-1, math.MaxInt)
}

// made is an arena of these words, one at each of its addresses.
func made(t *testing.T, words []uint64) *arena.Arena {
	t.Helper()
	a, e := arena.New(len(words) / api.PageWords)
	if e != api.OK || a.Store(0, words...) != api.OK {
		t.Fatalf("an arena of %d words: %v", len(words), e)
	}
	return a
}

// model is what an arena with a chain is held against: all words, and the blocks' addresses, the first one's first.
type model struct {
	words  []uint64
	blocks []int
}

// filled is the model of an arena of 256 words, none of which is 0 or an address and 1, and a chain of these blocks in it.
func filled(blocks ...int) *model {
	m := &model{make([]uint64, size), slices.Clone(blocks)}
	r := rule(3)
	for at := range m.words {
		m.words[at] = r.next() | 1<<40
	}
	m.lay()
	return m
}

// lay writes all links of the chain anew.
func (m *model) lay() {
	for i, at := range m.blocks {
		m.words[at] = 0
		if i+1 < len(m.blocks) {
			m.words[at] = uint64(m.blocks[i+1] + 1)
		}
	}
}

// chain is the chain of the model's blocks.
func (m *model) chain() api.Chain {
	if len(m.blocks) == 0 {
		return api.Chain{}
	}
	return of(m.blocks[0]+1, len(m.blocks))
}

// push is what Push should answer; all links are laid anew.
func (m *model) push(at []int) api.Errno {
	if slices.ContainsFunc(at, func(x int) bool { return x < 0 || x >= len(m.words) }) {
		return api.ErrRange
	}
	for i, x := range at {
		if slices.Contains(m.blocks, x) || slices.Contains(at[:i], x) {
			return api.ErrArg
		}
	}
	for _, x := range at {
		m.blocks = slices.Insert(m.blocks, 0, x)
	}
	m.lay()
	return api.OK
}

// remove is what Remove should answer; all links are laid anew.
func (m *model) remove(at int) api.Errno {
	i := slices.Index(m.blocks, at)
	if i < 0 {
		return api.ErrNone
	}
	m.blocks = slices.Delete(m.blocks, i, i+1)
	m.words[at] = 0
	m.lay()
	return api.OK
}

// pop is what Pop should answer.
func (m *model) pop() (int, api.Errno) {
	if len(m.blocks) == 0 {
		return 0, api.ErrNone
	}
	at := m.blocks[0]
	return at, m.remove(at)
}

// same asks whether an arena's words are these.
func same(t *testing.T, a *arena.Arena, words []uint64, what ...any) {
	t.Helper()
	got, e := a.Row(0, a.Words())
	if e != api.OK || len(got) != len(words) {
		t.Fatalf("%v: %d words, %v", what, len(got), e)
	}
	for at, w := range words {
		if got[at] != w {
			t.Fatalf("P8.2, P0.3: %v: the word at %d is %x, not %x", what, at, got[at], w)
		}
	}
}

// hold asks an arena and a chain all they tell: they must be the model's.
func hold(t *testing.T, a *arena.Arena, c api.Chain, m *model, what ...any) {
	t.Helper()
	if c != m.chain() {
		t.Fatalf("P8.1: %v: the chain is %v, not %v", what, c, m.chain())
	}
	if l, e := chain.List(a, c); e != api.OK || !slices.Equal(l, m.blocks) {
		t.Fatalf("P8.1: %v: List is %v, %v, not %v", what, l, e, m.blocks)
	}
	if !chain.Right(a, c) {
		t.Fatalf("P8.1: %v: %v isn't right", what, c)
	}
	same(t, a, m.words, what...)
}

// doPush pushes to both.
func doPush(t *testing.T, a *arena.Arena, c api.Chain, m *model, at ...int) api.Chain {
	t.Helper()
	got, e := chain.Push(a, c, at...)
	if want := m.push(at); e != want || got != m.chain() {
		t.Fatalf("P8.1: Push(%v, %v) = %v, %v, not %v, %v", c, at, got, e, m.chain(), want)
	}
	return got
}

// doPop pops from both.
func doPop(t *testing.T, a *arena.Arena, c api.Chain, m *model) api.Chain {
	t.Helper()
	got, at, e := chain.Pop(a, c)
	if wantAt, want := m.pop(); e != want || at != wantAt || got != m.chain() {
		t.Fatalf("P8.1: Pop(%v) = %v, %d, %v, not %v, %d, %v", c, got, at, e, m.chain(), wantAt, want)
	}
	return got
}

// doRemove removes from both.
func doRemove(t *testing.T, a *arena.Arena, c api.Chain, m *model, at int) api.Chain {
	t.Helper()
	got, e := chain.Remove(a, c, at)
	if want := m.remove(at); e != want || got != m.chain() {
		t.Fatalf("P8.1: Remove(%v, %d) = %v, %v, not %v, %v", c, at, got, e, m.chain(), want)
	}
	return got
}

// TestExample is the chapter's.
func TestExample(t *testing.T) {
	a := made(t, make([]uint64, size))
	c, e := chain.Push(a, api.Chain{}, 5, 9)
	if w, _ := a.Load(9); e != api.OK || c.Head != 10 || w != 6 {
		t.Errorf("P8.1: Push of 5 and 9: %v, %v, the word at 9 is %d", c, e, w)
	}
}

// stand is a chain over words of an arena, and what is known of it: whether it is right, and which blocks it has then.
type stand struct {
	name   string
	words  map[int]uint64
	c      api.Chain
	right  bool
	blocks []int
}

// without are chains of no blocks, or that would be.
func without() []stand {
	return []stand{
		{"none", nil, of(0, 0), true, nil},
		{"none, another Head", nil, of(1, 0), false, nil}, {"none, a Head of a 0", map[int]uint64{5: 0}, of(6, 0), false, nil}, {"none, a Head below 0", nil, of(-1, 0), false, nil}, {"none, a Head behind all", nil, of(257, 0), false, nil},
		{"none, a Len of 1", nil, of(0, 1), false, nil}, {"none, a Len of -1", nil, of(0, -1), false, nil}, {"none, the least Len", nil, of(0, math.MinInt), false, nil}, {"none, the greatest Len", nil, of(0, math.MaxInt), false, nil},
	}
}

// some are chains of blocks, whose Head and Len are right, or not.
func some() []stand {
	one, ends, three := map[int]uint64{5: 0}, map[int]uint64{255: 1, 0: 0}, map[int]uint64{32: 1, 0: 17, 16: 0}
	return []stand{
		{"one", one, of(6, 1), true, []int{5}}, {"both ends", ends, of(256, 2), true, []int{255, 0}}, {"three", three, of(33, 3), true, []int{32, 0, 16}}, {"the last two", three, of(1, 2), true, []int{0, 16}}, {"the last one", three, of(17, 1), true, []int{16}},
		{"one, Len 0", one, of(6, 0), false, nil}, {"one, Len 2", one, of(6, 2), false, nil}, {"one, Len -1", one, of(6, -1), false, nil},
		{"three, Len 2", three, of(33, 2), false, nil}, {"three, Len 4", three, of(33, 4), false, nil}, {"three, Len 0", three, of(33, 0), false, nil}, {"three, Len -1", three, of(33, -1), false, nil}, {"three, Len -3", three, of(33, -3), false, nil},
		{"three, the least Len", three, of(33, math.MinInt), false, nil}, {"three, the greatest Len", three, of(33, math.MaxInt), false, nil}, {"three, Len 2^32 + 3", three, of(33, 1<<32+3), false, nil},
		{"three, an address for a Head", three, of(32, 3), false, nil}, {"three, Head -33", three, of(-33, 3), false, nil}, {"three, Head 2^32 + 33", three, of(1<<32+33, 3), false, nil}, {"three, Head 257", three, of(257, 3), false, nil}, {"three, Head 289", three, of(256+33, 3), false, nil},
		{"the least Head", nil, of(math.MinInt, 1), false, nil}, {"the greatest Head", nil, of(math.MaxInt, 1), false, nil}, {"Head -1", nil, of(-1, 1), false, nil},
	}
}

// wrong are chains that come round, or lead to where no word is.
func wrong() []stand {
	self, two, later := map[int]uint64{5: 6}, map[int]uint64{40: 51, 50: 41}, map[int]uint64{8: 13, 12: 4, 3: 13}
	l := []stand{{"comes round at the last address", map[int]uint64{255: 256}, of(256, 1), false, nil}}
	for n := range 6 {
		l = append(l, stand{"comes round at once", self, of(6, n), false, nil}, stand{"comes round to its first", two, of(41, n), false, nil}, stand{"comes round to a later one", later, of(9, n), false, nil})
	}
	for _, w := range []uint64{257, 258, 512, 1<<32 + 17, 1 << 32, 1 << 62, math.MaxInt, 1 << 63, 1<<63 + 1, 1<<63 + 17, math.MaxUint64, math.MaxUint64 - 1, math.MaxUint64 - 15} {
		for n := range 4 {
			l = append(l, stand{"leads out at once", map[int]uint64{5: w}, of(6, n), false, nil}, stand{"leads out later", map[int]uint64{5: 10, 9: w}, of(6, n), false, nil})
		}
	}
	return l
}

// all are all stands.
func all() []stand { return slices.Concat(without(), some(), wrong()) }

// lay is an arena with a stand's words, and what all its words are.
func (s stand) lay(t *testing.T) (*arena.Arena, []uint64) {
	t.Helper()
	words := filled().words
	// It ends a chain, so that a link to it that is cut to 32 bits would be a right one.
	words[16] = 0
	for at, w := range s.words {
		words[at] = w
	}
	return made(t, words), words
}

// state is the error of a chain that is right, or not.
func (s stand) state() api.Errno {
	if s.right {
		return api.OK
	}
	return api.ErrState
}

func TestListAndRight(t *testing.T) {
	for _, s := range all() {
		a, words := s.lay(t)
		if l, e := chain.List(a, s.c); e != s.state() || !slices.Equal(l, s.blocks) {
			t.Errorf("P8.1, P0.2: %s: List(%v) = %v, %v, not %v, %v", s.name, s.c, l, e, s.blocks, s.state())
		}
		if got := chain.Right(a, s.c); got != s.right {
			t.Errorf("P8.1: %s: Right(%v) = %v", s.name, s.c, got)
		}
		same(t, a, words, s.name, s.c)
	}
}

// TestAllOfWrong does all calls to chains that aren't right: ErrState is ahead of all other errors, and nothing is changed.
func TestAllOfWrong(t *testing.T) {
	for _, s := range all() {
		if s.right {
			continue
		}
		a, words := s.lay(t)
		for _, at := range [][]int{nil, {}, {200}, {200, 201}, {5}, {16}, {200, 200}, {-1}, {256}, {0, 5, 999, 5}} {
			if c, e := chain.Push(a, s.c, at...); e != api.ErrState || c != s.c {
				t.Errorf("P8.1, P0.2: %s: Push(%v, %v) = %v, %v", s.name, s.c, at, c, e)
			}
		}
		if c, at, e := chain.Pop(a, s.c); e != api.ErrState || c != s.c || at != 0 {
			t.Errorf("P8.1, P0.2: %s: Pop(%v) = %v, %d, %v", s.name, s.c, c, at, e)
		}
		for _, at := range []int{0, 3, 5, 8, 16, 32, 200, s.c.Head - 1, s.c.Head, -1, 256, math.MinInt, math.MaxInt} {
			if c, e := chain.Remove(a, s.c, at); e != api.ErrState || c != s.c {
				t.Errorf("P8.1, P0.2: %s: Remove(%v, %d) = %v, %v", s.name, s.c, at, c, e)
			}
		}
		same(t, a, words, s.name, s.c)
	}
}

func TestRightOfSeveral(t *testing.T) {
	// The chains 32 0 16; 9; and 10 40 9, whose last one is that 9; 60 comes round.
	words := filled().words
	for at, w := range map[int]uint64{32: 1, 0: 17, 16: 0, 9: 0, 10: 41, 40: 10, 60: 61} {
		words[at] = w
	}
	a := made(t, words)
	none, three, tail, one, over, round, short := of(0, 0), of(33, 3), of(1, 2), of(10, 1), of(11, 3), of(61, 1), of(33, 2)
	for _, c := range []struct {
		l    []api.Chain
		want bool
	}{
		{nil, true}, {[]api.Chain{}, true}, {[]api.Chain{none}, true}, {[]api.Chain{none, none}, true}, {[]api.Chain{three, one}, true}, {[]api.Chain{none, one, three, none}, true},
		// Chains that have blocks in common: each is right for itself.
		{[]api.Chain{three, three}, true}, {[]api.Chain{three, tail}, true}, {[]api.Chain{tail, three}, true}, {[]api.Chain{one, over}, true}, {[]api.Chain{over, one, over, three, tail, none}, true},
		// One that isn't right: the first, a middle and the last one, and alone.
		{[]api.Chain{round}, false}, {[]api.Chain{short}, false}, {[]api.Chain{round, three, one}, false}, {[]api.Chain{three, round, one}, false}, {[]api.Chain{three, one, round}, false}, {[]api.Chain{short, three}, false}, {[]api.Chain{three, short}, false}, {[]api.Chain{none, short}, false}, {[]api.Chain{round, short}, false}, {[]api.Chain{over, of(-4, 1)}, false}, {[]api.Chain{of(0, 1), over}, false},
	} {
		if got := chain.Right(a, c.l...); got != c.want {
			t.Errorf("P8.1: Right(%v) = %v", c.l, got)
		}
	}
	same(t, a, words, "Right")
}

func TestListOfMany(t *testing.T) {
	for _, pages := range []int{4, 1024} {
		n := 64 * pages
		// All words are blocks: the addresses go down, up, and by steps of 5, that meet them all.
		for _, next := range []func(at int) int{func(at int) int { return (at + n - 1) % n }, func(at int) int { return (at + 1) % n }, func(at int) int { return (at + 5) % n }} {
			words, blocks := make([]uint64, n), []int{7}
			for range n - 1 {
				blocks = append(blocks, next(blocks[len(blocks)-1]))
			}
			m := model{words, blocks}
			m.lay()
			a := made(t, words)
			hold(t, a, of(8, n), &m, "all words of", pages)
			if chain.Right(a, of(8, n-1)) || chain.Right(a, of(8, n+1)) || chain.Right(a, of(blocks[1]+1, n)) || !chain.Right(a, of(blocks[1]+1, n-1)) {
				t.Errorf("P8.1: a chain of all words of %d pages, of another Len", pages)
			}
			// It comes round at its end: to the first one, to a middle one, to the last one itself.
			for _, to := range []int{0, n / 2, n - 1} {
				a.Store(blocks[n-1], uint64(blocks[to]+1))
				if l, e := chain.List(a, of(8, n)); e != api.ErrState || len(l) != 0 {
					t.Errorf("P8.1: a chain of %d blocks comes round to the block %d: %d blocks, %v", n, to, len(l), e)
				}
			}
		}
	}
}

func TestPushTable(t *testing.T) {
	for _, c := range []struct {
		blocks, at []int
		want       api.Errno
		head       int
	}{
		{nil, nil, api.OK, 0}, {nil, []int{}, api.OK, 0}, {[]int{32, 0, 16}, nil, api.OK, 33}, {[]int{32, 0, 16}, []int{}, api.OK, 33}, {[]int{5}, nil, api.OK, 6},
		{nil, []int{5}, api.OK, 6}, {nil, []int{0}, api.OK, 1}, {nil, []int{255}, api.OK, 256}, {nil, []int{5, 9}, api.OK, 10}, {nil, []int{9, 5}, api.OK, 6}, {nil, []int{255, 0, 128, 1}, api.OK, 2},
		{[]int{5}, []int{9}, api.OK, 10}, {[]int{0}, []int{255}, api.OK, 256}, {[]int{32, 0, 16}, []int{48}, api.OK, 49}, {[]int{32, 0, 16}, []int{48, 17, 31, 200, 33}, api.OK, 34},
		// Addresses that aren't there: alone, the first and the last one.
		{nil, []int{256}, api.ErrRange, 0}, {nil, []int{-1}, api.ErrRange, 0}, {nil, []int{math.MinInt}, api.ErrRange, 0}, {nil, []int{math.MaxInt}, api.ErrRange, 0}, {nil, []int{1<<32 + 5}, api.ErrRange, 0}, {[]int{32, 0, 16}, []int{256}, api.ErrRange, 33},
		{[]int{5}, []int{9, 256}, api.ErrRange, 6}, {[]int{5}, []int{256, 9}, api.ErrRange, 6}, {[]int{5}, []int{9, -1, 12}, api.ErrRange, 6}, {[]int{5}, []int{256, 256}, api.ErrRange, 6}, {[]int{5}, []int{-6}, api.ErrRange, 6},
		// Blocks already: the first, a middle and the last one.
		{[]int{32, 0, 16}, []int{32}, api.ErrArg, 33}, {[]int{32, 0, 16}, []int{0}, api.ErrArg, 33}, {[]int{32, 0, 16}, []int{16}, api.ErrArg, 33}, {[]int{32, 0, 16}, []int{48, 16}, api.ErrArg, 33}, {[]int{32, 0, 16}, []int{16, 48}, api.ErrArg, 33}, {[]int{32, 0, 16}, []int{1, 2, 0, 3}, api.ErrArg, 33},
		// Named twice.
		{nil, []int{5, 5}, api.ErrArg, 0}, {nil, []int{0, 0}, api.ErrArg, 0}, {[]int{32, 0, 16}, []int{5, 5}, api.ErrArg, 33}, {[]int{5}, []int{9, 12, 9}, api.ErrArg, 6}, {[]int{5}, []int{9, 12, 12}, api.ErrArg, 6}, {[]int{5}, []int{5, 5}, api.ErrArg, 6},
		// Both: what isn't there is asked of all ahead.
		{[]int{5}, []int{5, 256}, api.ErrRange, 6}, {[]int{5}, []int{256, 5}, api.ErrRange, 6}, {[]int{5}, []int{9, 9, -1}, api.ErrRange, 6}, {[]int{5}, []int{-1, 9, 9}, api.ErrRange, 6},
	} {
		m := filled(c.blocks...)
		a := made(t, m.words)
		got, e := chain.Push(a, m.chain(), c.at...)
		if e != c.want || got.Head != c.head {
			t.Errorf("P8.1, P0.2: Push to %v of %v: %v, %v, not a Head of %d, %v", c.blocks, c.at, got, e, c.head, c.want)
		}
		m.push(c.at)
		hold(t, a, got, m, "Push to", c.blocks, "of", c.at)
	}
}

// TestPushOverWords pushes blocks at which there are other words, those of links, too: each is the link alone then.
func TestPushOverWords(t *testing.T) {
	for _, w := range []uint64{0, 1, 6, 17, 77, 257, 1 << 63, math.MaxUint64} {
		m := filled(16)
		m.words[5], m.words[9] = w, w
		a := made(t, m.words)
		c := doPush(t, a, m.chain(), m, 5, 9)
		hold(t, a, c, m, "Push over", w)
		m = filled()
		m.words[5] = w
		a = made(t, m.words)
		c = doPush(t, a, api.Chain{}, m, 5)
		hold(t, a, c, m, "Push of the only one over", w)
	}
}

func TestPopTable(t *testing.T) {
	for _, c := range []struct {
		blocks []int
		want   api.Errno
		at     int
		rest   api.Chain
	}{
		{nil, api.ErrNone, 0, of(0, 0)}, {[]int{5}, api.OK, 5, of(0, 0)}, {[]int{0}, api.OK, 0, of(0, 0)}, {[]int{255}, api.OK, 255, of(0, 0)},
		{[]int{5, 9}, api.OK, 5, of(10, 1)}, {[]int{9, 5}, api.OK, 9, of(6, 1)}, {[]int{0, 255}, api.OK, 0, of(256, 1)}, {[]int{255, 0}, api.OK, 255, of(1, 1)}, {[]int{32, 0, 16}, api.OK, 32, of(1, 2)}, {[]int{1, 2, 3, 4, 5, 6, 7}, api.OK, 1, of(3, 6)},
	} {
		m := filled(c.blocks...)
		a := made(t, m.words)
		rest, at, e := chain.Pop(a, m.chain())
		if e != c.want || at != c.at || rest != c.rest {
			t.Errorf("P8.1, P0.2: Pop of %v: %v, %d, %v, not %v, %d, %v", c.blocks, rest, at, e, c.rest, c.at, c.want)
		}
		if w, _ := a.Load(c.at); c.want == api.OK && w != 0 {
			t.Errorf("P8.1: Pop of %v: the word at %d is %x then", c.blocks, c.at, w)
		}
		m.pop()
		hold(t, a, rest, m, "Pop of", c.blocks)
	}
}

func TestRemoveTable(t *testing.T) {
	for _, c := range []struct {
		blocks []int
		at     int
		want   api.Errno
		rest   []int
	}{
		{[]int{5}, 5, api.OK, nil}, {[]int{0}, 0, api.OK, nil}, {[]int{255}, 255, api.OK, nil},
		{[]int{5, 9}, 5, api.OK, []int{9}}, {[]int{5, 9}, 9, api.OK, []int{5}}, {[]int{255, 0}, 0, api.OK, []int{255}}, {[]int{255, 0}, 255, api.OK, []int{0}},
		{[]int{32, 0, 16}, 32, api.OK, []int{0, 16}}, {[]int{32, 0, 16}, 0, api.OK, []int{32, 16}}, {[]int{32, 0, 16}, 16, api.OK, []int{32, 0}},
		{[]int{1, 2, 3, 4, 5}, 2, api.OK, []int{1, 3, 4, 5}}, {[]int{1, 2, 3, 4, 5}, 3, api.OK, []int{1, 2, 4, 5}}, {[]int{1, 2, 3, 4, 5}, 4, api.OK, []int{1, 2, 3, 5}},
		// None of its blocks: what a block has at its address, beside it, what isn't there.
		{nil, 0, api.ErrNone, nil}, {nil, -1, api.ErrNone, nil}, {nil, 256, api.ErrNone, nil}, {[]int{5}, 6, api.ErrNone, []int{5}}, {[]int{5}, 4, api.ErrNone, []int{5}}, {[]int{5}, 0, api.ErrNone, []int{5}}, {[]int{32, 0, 16}, 33, api.ErrNone, []int{32, 0, 16}}, {[]int{32, 0, 16}, 17, api.ErrNone, []int{32, 0, 16}}, {[]int{32, 0, 16}, 1, api.ErrNone, []int{32, 0, 16}},
		{[]int{32, 0, 16}, -1, api.ErrNone, []int{32, 0, 16}}, {[]int{32, 0, 16}, 256, api.ErrNone, []int{32, 0, 16}}, {[]int{32, 0, 16}, -16, api.ErrNone, []int{32, 0, 16}}, {[]int{32, 0, 16}, 1<<32 + 16, api.ErrNone, []int{32, 0, 16}}, {[]int{32, 0, 16}, math.MinInt, api.ErrNone, []int{32, 0, 16}}, {[]int{32, 0, 16}, math.MaxInt, api.ErrNone, []int{32, 0, 16}},
	} {
		m := filled(c.blocks...)
		a := made(t, m.words)
		got, e := chain.Remove(a, m.chain(), c.at)
		if l, _ := chain.List(a, got); e != c.want || !slices.Equal(l, c.rest) {
			t.Errorf("P8.1: Remove of %v, %d: %v, %v, not %v, %v", c.blocks, c.at, l, e, c.rest, c.want)
		}
		if w, _ := a.Load(c.at); c.want == api.OK && w != 0 {
			t.Errorf("P8.1: Remove of %v, %d: the word there is %x then", c.blocks, c.at, w)
		}
		m.remove(c.at)
		hold(t, a, got, m, "Remove of", c.blocks, c.at)
	}
}

// TestLastInFirstOut pops all that was pushed: what was last comes first.
func TestLastInFirstOut(t *testing.T) {
	at := []int{16, 0, 255, 64, 63, 1, 128}
	for together := range 2 {
		m := filled()
		a := made(t, m.words)
		c := api.Chain{}
		if together == 1 {
			c = doPush(t, a, c, m, at...)
		} else {
			for _, x := range at {
				c = doPush(t, a, c, m, x)
			}
		}
		for _, x := range slices.Backward(at) {
			rest, got, e := chain.Pop(a, c)
			if e != api.OK || got != x {
				t.Fatalf("P8.2: Pop = %d, %v, not %d, that was pushed last", got, e, x)
			}
			m.pop()
			hold(t, a, rest, m, "Pop", x)
			c = rest
		}
		if c != (api.Chain{}) {
			t.Errorf("P8.1: nothing is left, but the chain is %v", c)
		}
	}
}

// meets is what List should answer of a chain over words: as many as its Len are met, all different, and then a 0 comes.
func meets(words []uint64, c api.Chain) ([]int, bool) {
	var l []int
	link := uint64(c.Head)
	for range c.Len {
		if link == 0 || link > uint64(len(words)) || slices.Contains(l, int(link-1)) {
			return nil, false
		}
		l = append(l, int(link-1))
		link = words[link-1]
	}
	if c.Len < 0 || link != 0 {
		return nil, false
	}
	return l, true
}

// TestAllSmallChains asks all chains over words that lead to one another, to where no word is, and to none.
func TestAllSmallChains(t *testing.T) {
	links := []uint64{0, 1, 2, 3, 4, 257, 1 << 63}
	a := made(t, filled().words)
	words := filled().words
	rows := len(links) * len(links) * len(links) * len(links)
	for row := range rows {
		for at, x := 0, row; at < 4; at, x = at+1, x/len(links) {
			words[at] = links[x%len(links)]
		}
		a.Store(0, words[:4]...)
		for head := -1; head <= 4; head++ {
			for n := -1; n <= 5; n++ {
				c := of(head, n)
				want, right := meets(words, c)
				l, e := chain.List(a, c)
				if (e == api.OK) != right || !right && e != api.ErrState || !slices.Equal(l, want) || chain.Right(a, c) != right {
					t.Fatalf("P8.1: of the words %v: List(%v) = %v, %v, not %v, %v", words[:4], c, l, e, want, right)
				}
			}
		}
		same(t, a, words, "asking", words[:4])
	}
}

// TestAllShortRows does all rows of calls, up to a length.
func TestAllShortRows(t *testing.T) {
	const kinds, length = 9, 5
	rows := 1
	for range length {
		rows *= kinds
	}
	a := made(t, filled().words)
	for row := range rows {
		m := filled()
		a.Store(0, m.words[:4]...)
		c := api.Chain{}
		for x, n := row, length; n > 0; x, n = x/kinds, n-1 {
			switch kind := x % kinds; {
			case kind < 3:
				c = doPush(t, a, c, m, kind)
			case kind == 3:
				c = doPush(t, a, c, m, 1, 3)
			case kind < 8:
				c = doRemove(t, a, c, m, kind-4)
			default:
				c = doPop(t, a, c, m)
			}
		}
		hold(t, a, c, m, "row", row)
	}
}

// TestRowsOfCalls holds long rows of calls against a model whose links are laid anew.
func TestRowsOfCalls(t *testing.T) {
	for seed := range 12 {
		r := rule(seed)
		m := filled()
		a := made(t, m.words)
		c := api.Chain{}
		places := 8 + 30*seed
		for range 600 {
			switch r.below(4) {
			case 0:
				c = doPop(t, a, c, m)
			case 1:
				c = doRemove(t, a, c, m, r.below(places))
			default:
				at := make([]int, r.below(4))
				for i := range at {
					at[i] = r.below(places) - r.below(2)*r.below(2)
				}
				c = doPush(t, a, c, m, at...)
			}
			hold(t, a, c, m, "seed", seed)
		}
	}
}

// TestChainsApart changes one of two chains of an arena: the other one stays.
func TestChainsApart(t *testing.T) {
	m := filled()
	a := made(t, m.words)
	one, _ := chain.Push(a, api.Chain{}, 16, 0, 32)
	two, _ := chain.Push(a, api.Chain{}, 17, 1, 33)
	one, _ = chain.Push(a, one, 48)
	one, _ = chain.Remove(a, one, 0)
	two, at, _ := chain.Pop(a, two)
	l, e := chain.List(a, one)
	k, f := chain.List(a, two)
	if e != api.OK || f != api.OK || at != 33 || !slices.Equal(l, []int{48, 32, 16}) || !slices.Equal(k, []int{1, 17}) {
		t.Errorf("P8.1, P8.2: two chains: %v, %v; %v, %v; %d", l, e, k, f, at)
	}
	// Nor is a block of one known to the other: it isn't one of its own.
	if c, e := chain.Remove(a, two, 16); e != api.ErrNone || c != two {
		t.Errorf("P8.1: Remove of another chain's block: %v, %v", c, e)
	}
}

// TestElderChain does calls to a chain as it was ahead of a change: it isn't right any more, or what its words tell.
func TestElderChain(t *testing.T) {
	a := made(t, make([]uint64, size))
	elder, _ := chain.Push(a, api.Chain{}, 5, 9)
	if c, e := chain.Push(a, elder, 12); e != api.OK || c != of(13, 3) || elder != of(10, 2) || !chain.Right(a, elder) {
		t.Errorf("P8.1: Push changes an elder chain: %v, %v, %v", elder, c, e)
	}
	chain.Remove(a, elder, 5)
	if c, e := chain.Push(a, elder, 20); e != api.ErrState || c != elder {
		t.Errorf("P8.1: Push to a chain as it was: %v, %v", c, e)
	}
}

// TestNil asks a nil arena all: it has no words, so that no chain has blocks there.
func TestNil(t *testing.T) {
	none := api.Chain{}
	if l, e := chain.List(nil, none); e != api.OK || len(l) != 0 {
		t.Errorf("P8.1: nil: List = %v, %v", l, e)
	}
	if !chain.Right(nil) || !chain.Right(nil, none) || !chain.Right(nil, none, none) || chain.Right(nil, none, of(1, 1)) {
		t.Error("P8.1: nil: Right")
	}
	if c, e := chain.Push(nil, none); e != api.OK || c != none {
		t.Errorf("P8.1: nil: Push of none = %v, %v", c, e)
	}
	if c, at, e := chain.Pop(nil, none); e != api.ErrNone || c != none || at != 0 {
		t.Errorf("P8.1: nil: Pop = %v, %d, %v", c, at, e)
	}
	for _, n := range numbers() {
		if c, e := chain.Push(nil, none, n, n); e != api.ErrRange || c != none {
			t.Errorf("P8.1: nil: Push(%d) = %v, %v", n, c, e)
		}
		if c, e := chain.Remove(nil, none, n); e != api.ErrNone || c != none {
			t.Errorf("P8.1: nil: Remove(%d) = %v, %v", n, c, e)
		}
		for _, k := range numbers() {
			if c := of(n, k); c != none {
				refused(t, nil, c)
			}
		}
	}
}

// refused does all calls to a chain that isn't right.
func refused(t *testing.T, a *arena.Arena, c api.Chain) {
	t.Helper()
	if l, e := chain.List(a, c); e != api.ErrState || len(l) != 0 || chain.Right(a, c) {
		t.Errorf("P8.1, P0.2: List(%v) = %v, %v", c, l, e)
	}
	x, e := chain.Push(a, c, 5)
	y, at, f := chain.Pop(a, c)
	z, g := chain.Remove(a, c, 5)
	if e != api.ErrState || f != api.ErrState || g != api.ErrState || x != c || y != c || z != c || at != 0 {
		t.Errorf("P8.1, P0.2: of %v: Push %v, %v, Pop %v, %d, %v, Remove %v, %v", c, x, e, y, at, f, z, g)
	}
}

// TestAllNumbers hands in all numbers: a panic ends the test, and what may not be is refused, and changes nothing.
func TestAllNumbers(t *testing.T) {
	m := filled(32, 0, 16)
	a := made(t, m.words)
	for _, head := range numbers() {
		for _, n := range numbers() {
			c := of(head, n)
			if _, right := meets(m.words, c); !right {
				refused(t, a, c)
			}
		}
	}
	same(t, a, m.words, "all Heads and Lens")
	for _, at := range numbers() {
		m := filled(32, 0, 16)
		a := made(t, m.words)
		c := doPush(t, a, m.chain(), m, at)
		c = doPush(t, a, c, m, 48, at)
		hold(t, a, c, m, "Push", at)
		c = doRemove(t, a, c, m, at)
		c = doRemove(t, a, c, m, at)
		hold(t, a, c, m, "Remove", at)
	}
}

// TestListsAreLeftAndNotKept hands in addresses with room behind them, and writes into them afterwards.
func TestListsAreLeftAndNotKept(t *testing.T) {
	room := []int{9, 12, 40, 77, 78}
	kept := slices.Clone(room)
	for n := range 6 {
		for _, blocks := range [][]int{nil, {5}, {12}, {32, 0, 16}} {
			m := filled(blocks...)
			a := made(t, m.words)
			c, _ := chain.Push(a, m.chain(), room[:n]...)
			m.push(room[:n])
			if !slices.Equal(room, kept) {
				t.Fatalf("P0.4: Push made %v of %v", room, kept)
			}
			clear(room)
			hold(t, a, c, m, "writing into the addresses that were handed in")
			copy(room, kept)
		}
	}
	chains := []api.Chain{of(6, 1), of(10, 1), of(1, 1), of(2, 2), of(3, 3)}
	left := slices.Clone(chains)
	for n := range 6 {
		if chain.Right(made(t, filled(5).words), chains[:n]...); !slices.Equal(chains, left) {
			t.Fatalf("P0.4: Right made %v of %v", chains, left)
		}
	}
}

// TestListsAreNew writes into addresses that are answered, up to the end of their room.
func TestListsAreNew(t *testing.T) {
	m := filled(32, 0, 16)
	a := made(t, m.words)
	one, _ := chain.List(a, m.chain())
	two, _ := chain.List(a, m.chain())
	one = one[:cap(one)]
	for i := range one {
		one[i] = 99
	}
	if !slices.Equal(two, m.blocks) {
		t.Errorf("P0.4: writing into a list changes another one: %v", two)
	}
	hold(t, a, m.chain(), m, "writing into the list that was answered")
	c := doPush(t, a, m.chain(), m, 48)
	doPop(t, a, doPop(t, a, c, m), m)
	if !slices.Equal(two, []int{32, 0, 16}) {
		t.Errorf("P0.4: calls change a list that was answered before: %v", two)
	}
}

// TestNilIsEmpty hands in nil lists and empty ones.
func TestNilIsEmpty(t *testing.T) {
	m := filled(32, 0, 16)
	a := made(t, m.words)
	for _, c := range []api.Chain{m.chain(), {}, of(33, 2)} {
		x, e := chain.Push(a, c, nil...)
		y, f := chain.Push(a, c, []int{}...)
		if x != c || y != c || e != f {
			t.Errorf("P0.5: Push of nil to %v: %v, %v, of an empty list: %v, %v", c, x, e, y, f)
		}
	}
	if !chain.Right(a, nil...) || !chain.Right(a, []api.Chain{}...) {
		t.Error("P0.5: Right of nil, or of an empty list")
	}
	same(t, a, m.words, "Push of none")
}

// TestSameAnswersAgain does the same row of calls to two arenas, one behind the other.
func TestSameAnswersAgain(t *testing.T) {
	do := func() []int {
		a, r, c := made(t, filled().words), rule(99), api.Chain{}
		var l []int
		for range 2000 {
			var e, f, g api.Errno
			var at int
			c, e = chain.Push(a, c, r.below(90), r.below(90))
			c, f = chain.Remove(a, c, r.below(90))
			if r.below(2) == 0 {
				c, at, g = chain.Pop(a, c)
			}
			all, _ := chain.List(a, c)
			l = append(append(l, c.Head, c.Len, at, int(e), int(f), int(g)), all...)
		}
		return l
	}
	if !slices.Equal(do(), do()) {
		t.Error("P0.6: the same calls answer otherwise the second time")
	}
}
