package stacks_test

import (
	"math"
	"slices"
	"testing"

	"shoring/api"
	"shoring/arena"
	"shoring/cache"
	"shoring/heap"
	"shoring/large"
	"shoring/pool"
	"shoring/stacks"
)

// The signatures are exact: another one doesn't compile here.
var (
	_ func(int, int) (*stacks.Stacks, api.Errno)                                                = stacks.New
	_ func(...int) bool                                                                         = stacks.Sizes
	_ func(*stacks.Stacks, ...int) bool                                                         = (*stacks.Stacks).Procs
	_ func(*stacks.Stacks, int, int) (int, api.Errno)                                           = (*stacks.Stacks).Make
	_ func(*stacks.Stacks, int, int, int) api.Errno                                             = (*stacks.Stacks).Free
	_ func(*stacks.Stacks) api.Errno                                                            = (*stacks.Stacks).Open
	_ func(*stacks.Stacks) api.Errno                                                            = (*stacks.Stacks).Close
	_ func(*stacks.Stacks) bool                                                                 = (*stacks.Stacks).Collects
	_ func(*stacks.Stacks) int                                                                  = (*stacks.Stacks).Flush
	_ func(*stacks.Stacks) (*arena.Arena, *heap.Heap, *pool.Pool, *large.Keeper, *cache.Caches) = (*stacks.Stacks).Parts
)

// rule makes numbers one behind the other, that hang on the one it starts with alone.
type rule uint64

// next is the rule's next number.
func (r *rule) next() uint64 {
	*r = *r*6364136223846793005 + 1442695040888963407
	x := uint64(*r)
	return x ^ x>>29
}

// below is a number from 0 to n-1.
func (r *rule) below(n int) int { return int(r.next() >> 1 % uint64(n)) }

// numbers are those around processors, sizes of stacks, addresses of the start, ends of arenas and of words, and both ends of an int.
func numbers() []int {
	l := []int{math.MinInt, math.MinInt + 1, math.MinInt + 256, -1 << 62, -1 << 32, -1 << 31, -512, -256, -128, -64, -16, -3}
	for _, n := range []int{0, 4, 8, 16, 24, 32, 48, 64, 96, 112, 128, 192, 256, 300, 384, 512, 768, 1024, 1280, 1536, 2560, 65536, 131072, 1 << 31, 1 << 32, 1<<32 + 256, 1 << 61, 1 << 62, 3 << 61} {
		for d := -2; d <= 2; d++ {
			l = append(l, n+d)
		}
	}
	return append(l, math.MaxInt-255, math.MaxInt-1, math.MaxInt)
}

// isSize tells whether stacks have so many words: all sizes are gone through, till an int doesn't have the next one.
func isSize(words int) bool {
	for n := 16; n > 0; n *= 2 {
		if n == words {
			return true
		}
	}
	return false
}

// span is one of the model's, and the blocks of it that are in the pool's list, the first one first.
type span struct {
	api.Span
	list []int
}

// model is what stacks are held against: pages, blocks and lists as the chapters 6 to 12 tell them, without an arena.
type model struct {
	pages       []*span // which one each page is of; nil: it is free
	made        int
	procs       [][4][]int
	kept, waits []*span
	open        bool
	stacks      map[int]int // how many words those have that are there, by their addresses
}

// runs are the runs of free pages.
func (m *model) runs() []api.Run {
	var l []api.Run
	for page, s := range m.pages {
		switch {
		case s != nil:
		case page > 0 && m.pages[page-1] == nil:
			l[len(l)-1].Len++
		default:
			l = append(l, api.Run{Start: page, Len: 1})
		}
	}
	return l
}

// spans are those of an order that are there (below -1: all), as their pages come.
func (m *model) spans(order int) []*span {
	var l []*span
	for page, s := range m.pages {
		if s != nil && s.Start == page && (order < -1 || s.Order == order) {
			l = append(l, s)
		}
	}
	return l
}

// span makes one of the tightest run's first pages; nil, if there is no room.
func (m *model) span(n, order int) *span {
	for want := n; want <= len(m.pages); want++ {
		for _, r := range m.runs() {
			if r.Len != want {
				continue
			}
			m.made++
			s := &span{Span: api.Span{ID: m.made, Run: api.Run{Start: r.Start, Len: n}, Order: order}}
			for page := range n {
				m.pages[r.Start+page] = s
			}
			return s
		}
	}
	return nil
}

// drop lets spans go.
func (m *model) drop(l ...*span) {
	for page, s := range m.pages {
		if s != nil && slices.Contains(l, s) {
			m.pages[page] = nil
		}
	}
}

// block takes one out of the pool; below 0, if there is no room.
func (m *model) block(order int) int {
	for _, s := range m.spans(order) {
		if len(s.list) > 0 {
			at := s.list[0]
			s.list = s.list[1:]
			return at
		}
	}
	s := m.span(4, order)
	if s == nil {
		return -1
	}
	for at := 64 * s.Start; at < 64*(s.Start+4); at += 16 << order {
		s.list = append(s.list, at)
	}
	return m.block(order)
}

// back gives a block back to the pool.
func (m *model) back(at int) {
	s := m.pages[at/64]
	s.list = slices.Concat([]int{at}, s.list)
	m.trim()
}

// trim lets the pool's spans go that are whole, unless a collection is open.
func (m *model) trim() {
	for order := range 4 {
		for _, s := range m.spans(order) {
			if !m.open && len(s.list) == 16>>order {
				m.drop(s)
			}
		}
	}
}

// order is which of the small sizes it is; below 0, if it is none.
func order(words int) int { return slices.Index([]int{16, 32, 64, 128}, words) }

// may tells whether there is such a processor, and such a size.
func (m *model) may(proc, words int) bool {
	return proc >= 0 && proc < len(m.procs) && isSize(words)
}

// make is what Make should answer.
func (m *model) make(proc, words int) (int, api.Errno) {
	if !m.may(proc, words) {
		return 0, api.ErrArg
	}
	at := m.old(words)
	if o := order(words); o >= 0 {
		at = m.small(proc, o)
	}
	if at < 0 {
		return 0, api.ErrMemory
	}
	m.stacks[at] = words
	return at, api.OK
}

// small takes a small stack of a processor's list; below 0, if there is no room.
func (m *model) small(proc, order int) int {
	l := m.procs[proc][order]
	for n := 0; n < 8>>order && len(m.procs[proc][order]) == 0; n++ {
		if at := m.block(order); at >= 0 {
			l = slices.Concat([]int{at}, l)
		}
	}
	if len(l) == 0 {
		return -1
	}
	m.procs[proc][order] = l[1:]
	return l[0]
}

// old takes a large stack: of those that are kept the one that was given last; below 0, if there is no room. (Of small ones nothing is done.)
func (m *model) old(words int) int {
	if words < 256 {
		return -1
	}
	for i, s := range slices.Backward(m.kept) {
		if s.Len == words/64 {
			m.kept = slices.Concat(m.kept[:i], m.kept[i+1:])
			return 64 * s.Start
		}
	}
	s := m.span(words/64, -1)
	if s == nil {
		return -1
	}
	return 64 * s.Start
}

// free is what Free should answer.
func (m *model) free(proc, at, words int) api.Errno {
	switch {
	case !m.may(proc, words):
		return api.ErrArg
	case m.stacks[at] == words && order(words) >= 0:
		m.giveSmall(proc, order(words), at)
	case m.stacks[at] == words:
		m.giveLarge(m.pages[at/64])
	case m.idle(at, words):
		return api.ErrState
	default:
		return api.ErrRange
	}
	delete(m.stacks, at)
	return api.OK
}

// idle tells whether that is a block in a processor's list, or a large one that is kept, or waits.
func (m *model) idle(at, words int) bool {
	for _, l := range m.procs {
		if o := order(words); o >= 0 && slices.Contains(l[o], at) {
			return true
		}
	}
	return slices.ContainsFunc(slices.Concat(m.kept, m.waits), func(s *span) bool {
		return 64*s.Start == at && 64*s.Len == words
	})
}

// giveSmall puts a small stack into a processor's list.
func (m *model) giveSmall(proc, order, at int) {
	if len(m.procs[proc][order]) == 16>>order {
		m.empty(proc, order, 8>>order)
	}
	m.procs[proc][order] = slices.Concat([]int{at}, m.procs[proc][order])
}

// empty gives a list's first blocks back to the pool, till so many are left.
func (m *model) empty(proc, order, left int) {
	for len(m.procs[proc][order]) > left {
		l := m.procs[proc][order]
		m.procs[proc][order] = l[1:]
		m.back(l[0])
	}
}

// giveLarge lets a large stack wait, be kept, or go.
func (m *model) giveLarge(s *span) {
	same := 0
	for _, x := range m.kept {
		if x.Len == s.Len {
			same++
		}
	}
	switch {
	case m.open:
		m.waits = append(m.waits, s)
	case same < 2:
		m.kept = append(m.kept, s)
	default:
		m.drop(s)
	}
}

// collect is what Open and Close should answer.
func (m *model) collect(on bool) api.Errno {
	if m.open == on {
		return api.ErrState
	}
	m.open = on
	m.trim()
	if !on {
		m.drop(m.waits...)
		m.waits = nil
	}
	return api.OK
}

// flush is what Flush should answer.
func (m *model) flush() int {
	for proc := range m.procs {
		for order := range 4 {
			m.empty(proc, order, 0)
		}
	}
	if m.open {
		return 0
	}
	went := len(m.kept)
	m.drop(m.kept...)
	m.kept = nil
	return went
}

// ids are the numbers of the spans that have so many pages (0: however many).
func ids(l []*span, pages int) []int {
	var n []int
	for _, s := range l {
		if pages == 0 || s.Len == pages {
			n = append(n, s.ID)
		}
	}
	return n
}

// stand is stacks with their parts, the model of all, and what was written into each stack that is there.
type stand struct {
	*stacks.Stacks
	a     *arena.Arena
	h     *heap.Heap
	p     *pool.Pool
	k     *large.Keeper
	c     *cache.Caches
	m     *model
	words map[int][]uint64
	r     rule
}

// made is a stand of so many pages and processors, with none of its stacks there.
func made(t *testing.T, pages, procs int) *stand {
	t.Helper()
	x, e := stacks.New(pages, procs)
	if x == nil || e != api.OK {
		t.Fatalf("P12.1: New(%d, %d): %v, %v", pages, procs, x, e)
	}
	s := &stand{Stacks: x, m: &model{pages: make([]*span, pages), procs: make([][4][]int, procs), stacks: map[int]int{}}, words: map[int][]uint64{}}
	s.a, s.h, s.p, s.k, s.c = x.Parts()
	return s
}

// mk makes stacks of these sizes, holds what is answered, and writes all their words; what was answered last.
func (s *stand) mk(t *testing.T, proc int, sizes ...int) (at int, e api.Errno) {
	t.Helper()
	for _, words := range sizes {
		want, we := s.m.make(proc, words)
		at, e = s.Make(proc, words)
		if at != want || e != we {
			t.Fatalf("P12.1, P0.2: Make(%d, %d) = %d, %v, not %d, %v", proc, words, at, e, want, we)
		}
		if e != api.OK {
			continue
		}
		l := make([]uint64, words)
		for i := range l {
			l[i] = s.r.next()
		}
		if e := s.a.Store(at, l...); e != api.OK {
			t.Fatalf("P12.2: the stack at %d has no %d words: %v", at, words, e)
		}
		s.words[at] = l
	}
	return at, e
}

// fr frees a stack, and holds what is answered.
func (s *stand) fr(t *testing.T, proc, at, words int) api.Errno {
	t.Helper()
	want := s.m.free(proc, at, words)
	if got := s.Free(proc, at, words); got != want {
		t.Fatalf("P12.1, P0.2: Free(%d, %d, %d): %v, not %v", proc, at, words, got, want)
	}
	if want == api.OK {
		delete(s.words, at)
	}
	return want
}

// collect opens a collection, or closes it, and holds what is answered.
func (s *stand) collect(t *testing.T, on bool) api.Errno {
	t.Helper()
	do := s.Close
	if on {
		do = s.Open
	}
	want := s.m.collect(on)
	if got := do(); got != want {
		t.Fatalf("P12.1: to open (%v): %v, not %v", on, got, want)
	}
	return want
}

// fl flushes all, and holds what is answered.
func (s *stand) fl(t *testing.T) int {
	t.Helper()
	want := s.m.flush()
	if got := s.Flush(); got != want {
		t.Fatalf("P12.1: Flush = %d, not %d", got, want)
	}
	return want
}

// there are the addresses of the stacks that are there, rising.
func (s *stand) there() []int {
	var l []int
	for at := range s.words {
		l = append(l, at)
	}
	slices.Sort(l)
	return l
}

// same asks stacks and their parts all they tell: they must be the model's.
func (s *stand) same(t *testing.T, what ...any) {
	t.Helper()
	if got := s.Collects(); got != s.m.open {
		t.Fatalf("P12.1, P0.3: %v: Collects = %v, not %v", what, got, s.m.open)
	}
	var spans []api.Span
	for _, x := range s.m.spans(-2) {
		spans = append(spans, x.Span)
	}
	if got := s.h.Spans(); !slices.Equal(got, spans) {
		t.Fatalf("P12.1, P0.3: %v: the spans are %v, not %v", what, got, spans)
	}
	if got, want := s.h.Runs(), s.m.runs(); !slices.Equal(got, want) {
		t.Fatalf("P12.1, P0.3: %v: the free runs are %v, not %v", what, got, want)
	}
	for order := range 4 {
		var list []int
		for _, x := range s.m.spans(order) {
			list = append(list, x.list...)
		}
		if got := s.p.List(order); !slices.Equal(got, list) {
			t.Fatalf("P12.1, P0.3: %v: the pool's List(%d) = %v, not %v", what, order, got, list)
		}
		for proc, l := range s.m.procs {
			if got := s.c.List(proc, order); !slices.Equal(got, l[order]) {
				t.Fatalf("P12.1, P0.3: %v: the caches' List(%d, %d) = %v, not %v", what, proc, order, got, l[order])
			}
		}
	}
	for pages := 1; pages <= len(s.m.pages); pages++ {
		if got, want := s.k.Kept(pages), ids(s.m.kept, pages); !slices.Equal(got, want) {
			t.Fatalf("P12.1, P0.3: %v: Kept(%d) = %v, not %v", what, pages, got, want)
		}
	}
	if got, want := s.k.Waits(), ids(s.m.waits, 0); !slices.Equal(got, want) {
		t.Fatalf("P12.1, P0.3: %v: Waits = %v, not %v", what, got, want)
	}
	s.bounds(t, what...)
}

// bounds tells all words that stacks and blocks in lists have, as the parts tell them themselves, and reads the stacks' words.
func (s *stand) bounds(t *testing.T, what ...any) {
	t.Helper()
	told := make([]bool, s.a.Words())
	tell := func(at, words int) {
		t.Helper()
		for i := range words {
			if told[at+i] {
				t.Fatalf("P12.2: %v: the word %d of the %d words at %d is told already", what, i, words, at)
			}
			told[at+i] = true
		}
	}
	for at, want := range s.words {
		tell(at, len(want))
		if got, e := s.a.Row(at, len(want)); !slices.Equal(got, want) || e != api.OK {
			t.Fatalf("P12.2: %v: the stack of %d words at %d hasn't what was written into it", what, len(want), at)
		}
	}
	for order := range 4 {
		for _, at := range s.p.List(order) {
			tell(at, 16<<order)
		}
		for proc := range s.m.procs {
			for _, at := range s.c.List(proc, order) {
				tell(at, 16<<order)
			}
		}
	}
	for _, id := range slices.Concat(ids(s.m.kept, 0), s.k.Waits()) {
		x, _ := s.h.Span(id)
		tell(64*x.Start, 64*x.Len)
	}
	for _, r := range s.h.Runs() {
		tell(64*r.Start, 64*r.Len)
	}
	if at := slices.Index(told, false); at >= 0 {
		t.Fatalf("P12.2: %v: nobody has the word %d", what, at)
	}
}

// start is the stand that the tables begin with, of 40 pages and 3 processors.
//
//	span 1 (from 0 on), of 16 words: 112 is there, 0 to 96 are in the list of 0, the others in the pool's
//	span 2 (from 256 on), large, of 256 words: it is kept
//	span 3 (from 512 on), large, of 256 words: it is there
//	span 4 (from 768 on), large, of 512 words: it is kept
//	span 5 (from 1280 on), large, of 256 words: it is there
//	span 6 (from 1536 on), of 128 words: both blocks are in the list of 1
//	span 7 (from 1792 on), large, of 512 words: it is there
//	span 8 (from 2304 on), of 64 words: 2368 is there, 2304 in the list of 2, the others in the pool's
//
// There are no free pages.
func start(t *testing.T) *stand {
	t.Helper()
	s := made(t, 40, 3)
	s.mk(t, 0, 16)
	s.mk(t, 1, 256, 256)
	s.mk(t, 2, 512)
	s.mk(t, 0, 256, 128, 128)
	s.mk(t, 1, 512)
	s.mk(t, 2, 64)
	s.fr(t, 1, 1536, 128)
	s.fr(t, 1, 1664, 128)
	s.fr(t, 2, 256, 256)
	s.fr(t, 0, 768, 512)
	s.same(t, "start")
	return s
}

// TestStart tells what the tables begin with.
func TestStart(t *testing.T) {
	s := start(t)
	if got, want := s.there(), []int{112, 512, 1280, 1792, 2368}; !slices.Equal(got, want) {
		t.Errorf("P12.1: there are %v, not %v", got, want)
	}
	if got, want := s.c.List(0, 0), []int{96, 80, 64, 48, 32, 16, 0}; !slices.Equal(got, want) {
		t.Errorf("P12.1: the list 0, 0 is %v, not %v", got, want)
	}
	if got, want := s.c.List(1, 3), []int{1664, 1536}; !slices.Equal(got, want) {
		t.Errorf("P12.1: the list 1, 3 is %v, not %v", got, want)
	}
	if got, want := s.c.List(2, 2), []int{2304}; !slices.Equal(got, want) || len(s.c.All()) != 10 {
		t.Errorf("P12.1: the list 2, 2 is %v, not %v; all are %v", got, want, s.c.All())
	}
	if !slices.Equal(s.k.Kept(4), []int{2}) || !slices.Equal(s.k.Kept(8), []int{4}) || len(s.h.Runs()) != 0 || s.Collects() {
		t.Errorf("P12.1: kept are %v, %v, free are %v", s.k.Kept(4), s.k.Kept(8), s.h.Runs())
	}
}

func TestNewTable(t *testing.T) {
	in := func(n, least, most int) bool { return n >= least && n <= most }
	around := []int{3, 4, 5, 20, 1023, 1024, 1025}
	for _, n := range append(numbers(), around...) {
		for _, m := range append([]int{math.MinInt, -1, 0, 1, 2, 3, 4, 15, 16, 17, 1024, math.MaxInt}, n) {
			for _, x := range [][2]int{{n, m}, {m, n}} {
				want := api.ErrArg
				if in(x[0], 4, 1024) && in(x[1], 1, 16) {
					want = api.OK
				}
				if s, e := stacks.New(x[0], x[1]); e != want || (s == nil) != (want != api.OK) {
					t.Errorf("P12.1, P0.2: New(%d, %d): %v, %v, not %v", x[0], x[1], s, e, want)
				}
			}
		}
	}
	for _, pages := range []int{4, 5, 8, 100, 1023, 1024} {
		for _, procs := range []int{1, 2, 15, 16} {
			s := made(t, pages, procs)
			if s.h.Size() != pages || s.a.Words() != 64*pages || s.Collects() {
				t.Errorf("P12.1: New(%d, %d): %d pages, %d words, %v", pages, procs, s.h.Size(), s.a.Words(), s.Collects())
			}
			s.same(t, "New", pages, procs)
		}
	}
}

func TestSizes(t *testing.T) {
	right := []int{16, 32, 64, 128, 256, 1024, 1 << 16, 1 << 17, 1 << 40, 1 << 62}
	for _, n := range numbers() {
		if got := stacks.Sizes(n); got != isSize(n) {
			t.Errorf("P12.1: Sizes(%d) = %v", n, got)
		}
		for i := range len(right) + 1 {
			if got := stacks.Sizes(slices.Insert(slices.Clone(right), i, n)...); got != isSize(n) {
				t.Errorf("P12.1: Sizes of sizes, with %d at place %d = %v", n, i, got)
			}
		}
	}
	for n := -300; n <= 5000; n++ {
		if got := stacks.Sizes(n); got != isSize(n) {
			t.Errorf("P12.1: Sizes(%d) = %v", n, got)
		}
	}
	if !stacks.Sizes() || !stacks.Sizes([]int{}...) || !stacks.Sizes(right...) || !stacks.Sizes(16, 16) || stacks.Sizes(8, 24) {
		t.Error("P12.1, P0.5: Sizes of none, of all, of one twice, of two that are none")
	}
}

func TestProcs(t *testing.T) {
	for procs := 1; procs <= 16; procs++ {
		s := made(t, 4, procs)
		var all []int
		for x := range procs {
			all = append(all, x)
		}
		for _, n := range append(numbers(), all...) {
			want := n >= 0 && n < procs
			if got := s.Procs(n); got != want {
				t.Errorf("P12.1: of %d: Procs(%d) = %v", procs, n, got)
			}
			if s.Procs(append(slices.Clone(all), n)...) != want || s.Procs(slices.Insert(slices.Clone(all), 0, n)...) != want || s.Procs(n, n) != want {
				t.Errorf("P12.1: of %d: Procs of all, and of %d, isn't %v", procs, n, want)
			}
		}
		if !s.Procs() || !s.Procs([]int{}...) || !s.Procs(all...) {
			t.Errorf("P12.1, P0.5: of %d: Procs of none, of all", procs)
		}
		s.same(t, "Procs")
	}
}

func TestMakeTable(t *testing.T) {
	for _, c := range []struct {
		proc, words, at int
		e               api.Errno
	}{
		// Of the processor's list, or of the pool's.
		{0, 16, 96, api.OK}, {1, 16, 240, api.OK}, {2, 16, 240, api.OK}, {1, 128, 1664, api.OK}, {2, 64, 2304, api.OK}, {0, 64, 2496, api.OK}, {1, 64, 2496, api.OK},
		// Of those that are kept, by whatever processor.
		{0, 256, 256, api.OK}, {2, 256, 256, api.OK}, {0, 512, 768, api.OK}, {1, 512, 768, api.OK},
		// There is no room, neither in the list, nor in the pool, nor in the heap: other lists and other sizes are left.
		{0, 128, 0, api.ErrMemory}, {2, 128, 0, api.ErrMemory}, {0, 32, 0, api.ErrMemory}, {2, 32, 0, api.ErrMemory}, {1, 1024, 0, api.ErrMemory}, {0, 2048, 0, api.ErrMemory}, {0, 65536, 0, api.ErrMemory}, {0, 131072, 0, api.ErrMemory}, {2, 1 << 31, 0, api.ErrMemory}, {0, 1 << 32, 0, api.ErrMemory}, {0, 1 << 40, 0, api.ErrMemory}, {1, 1 << 61, 0, api.ErrMemory}, {0, 1 << 62, 0, api.ErrMemory},
		// There is no such size.
		{0, 0, 0, api.ErrArg}, {0, 1, 0, api.ErrArg}, {0, 2, 0, api.ErrArg}, {0, 4, 0, api.ErrArg}, {0, 8, 0, api.ErrArg}, {0, 15, 0, api.ErrArg}, {0, 17, 0, api.ErrArg}, {0, 24, 0, api.ErrArg}, {0, 48, 0, api.ErrArg}, {0, 100, 0, api.ErrArg}, {0, 192, 0, api.ErrArg}, {0, 255, 0, api.ErrArg}, {0, 257, 0, api.ErrArg}, {0, 300, 0, api.ErrArg}, {0, 320, 0, api.ErrArg}, {0, 384, 0, api.ErrArg}, {0, 511, 0, api.ErrArg}, {0, 768, 0, api.ErrArg}, {0, -16, 0, api.ErrArg}, {0, -256, 0, api.ErrArg}, {0, math.MinInt, 0, api.ErrArg}, {0, math.MaxInt, 0, api.ErrArg}, {0, 3 << 61, 0, api.ErrArg},
		// There is no such processor: not even where there is no room.
		{3, 16, 0, api.ErrArg}, {3, 256, 0, api.ErrArg}, {-1, 16, 0, api.ErrArg}, {-1, 512, 0, api.ErrArg}, {3, 128, 0, api.ErrArg}, {3, 2048, 0, api.ErrArg}, {16, 256, 0, api.ErrArg}, {math.MinInt, 256, 0, api.ErrArg}, {math.MaxInt, 64, 0, api.ErrArg}, {1 << 32, 16, 0, api.ErrArg}, {3, 100, 0, api.ErrArg},
	} {
		for _, on := range []bool{false, true} {
			s := start(t)
			if on {
				s.collect(t, true)
			}
			if at, e := s.mk(t, c.proc, c.words); at != c.at || e != c.e {
				t.Errorf("P12.1, P0.2: Make(%d, %d) = %d, %v, not %d, %v", c.proc, c.words, at, e, c.at, c.e)
			}
			s.same(t, "Make", c.proc, c.words, on)
		}
	}
}

// TestMakeEachSize makes stacks of each size, till there is no room, in an arena that has words for just so many.
func TestMakeEachSize(t *testing.T) {
	for _, c := range []struct{ words, pages, many int }{
		{16, 4, 16}, {32, 4, 8}, {64, 4, 4}, {128, 4, 2}, {256, 4, 1}, {512, 8, 1}, {1024, 16, 1}, {2048, 32, 1}, {4096, 64, 1}, {8192, 128, 1}, {16384, 256, 1}, {32768, 512, 1}, {65536, 1024, 1},
		{16, 11, 32}, {128, 11, 4}, {256, 11, 2}, {512, 20, 2}, {1024, 63, 3}, {65536, 1023, 0}, {131072, 1024, 0},
	} {
		s := made(t, c.pages, 2)
		for range c.many + 2 {
			s.mk(t, 1, c.words)
		}
		if len(s.words) != c.many {
			t.Errorf("P12.1, P12.2: of %d pages there are %d stacks of %d words, not %d", c.pages, len(s.words), c.words, c.many)
		}
		s.same(t, "Make", c.words, c.pages)
		s.end(t, "Make", c.words, c.pages)
	}
}

// end frees all stacks, closes a collection that is open, and flushes all.
func (s *stand) end(t *testing.T, what ...any) {
	t.Helper()
	for i, at := range s.there() {
		s.fr(t, i%len(s.m.procs), at, len(s.words[at]))
	}
	if s.Collects() {
		s.collect(t, false)
	}
	s.fl(t)
	s.same(t, what...)
	if got, pages := s.h.Runs(), s.h.Size(); !slices.Equal(got, []api.Run{{Start: 0, Len: pages}}) {
		t.Fatalf("P12.3: %v: all goes, but the free runs are %v", what, got)
	}
}

// TestKeptIsNotCut has kept stacks, and lists, whose words would be enough: Make flushes nothing.
func TestKeptIsNotCut(t *testing.T) {
	s := made(t, 8, 2)
	s.mk(t, 0, 256, 256)
	s.fr(t, 1, 0, 256)
	s.fr(t, 0, 256, 256)
	for _, words := range []int{512, 128, 16} {
		if at, e := s.mk(t, 0, words); at != 0 || e != api.ErrMemory {
			t.Errorf("P12.1: Make of %d words, where all are kept: %d, %v", words, at, e)
		}
		s.same(t, "no room", words)
	}
	s.fl(t)
	s.mk(t, 1, 512)
	if !slices.Equal(s.there(), []int{0}) {
		t.Errorf("P12.1: behind Flush there are %v", s.there())
	}
	s.end(t, "kept")
	s.mk(t, 0, 128)
	s.mk(t, 1, 128)
	s.fr(t, 0, 0, 128)
	s.fr(t, 0, 128, 128)
	if at, e := s.mk(t, 1, 512, 256, 256); at != 0 || e != api.ErrMemory {
		t.Errorf("P12.1: Make of 256 words, where 256 are in a list: %d, %v", at, e)
	}
	s.same(t, "no room but in a list")
	s.end(t, "in a list")
}

func TestFreeTable(t *testing.T) {
	for _, c := range []struct {
		proc, at, words int
		e               api.Errno
	}{
		// By whatever processor.
		{0, 112, 16, api.OK}, {1, 112, 16, api.OK}, {2, 2368, 64, api.OK}, {0, 2368, 64, api.OK}, {0, 512, 256, api.OK}, {2, 1280, 256, api.OK}, {1, 1792, 512, api.OK}, {0, 1792, 512, api.OK},
		// No block of this size that is out of the pool begins there.
		{0, 112, 32, api.ErrRange}, {0, 112, 128, api.ErrRange}, {0, 113, 16, api.ErrRange}, {0, 111, 16, api.ErrRange}, {0, 128, 16, api.ErrRange}, {0, 240, 16, api.ErrRange}, {0, 256, 16, api.ErrRange}, {0, 512, 128, api.ErrRange}, {2, 2368, 16, api.ErrRange}, {2, 2368, 128, api.ErrRange}, {2, 2369, 64, api.ErrRange}, {2, 2432, 64, api.ErrRange}, {0, 2496, 64, api.ErrRange}, {0, 2560, 16, api.ErrRange}, {0, -16, 16, api.ErrRange}, {0, -1, 128, api.ErrRange}, {0, math.MinInt, 16, api.ErrRange}, {0, math.MaxInt, 128, api.ErrRange}, {0, 0, 32, api.ErrRange}, {1, 1536, 64, api.ErrRange}, {2, 2304, 16, api.ErrRange},
		// It is in a list.
		{0, 0, 16, api.ErrState}, {1, 0, 16, api.ErrState}, {2, 96, 16, api.ErrState}, {1, 1536, 128, api.ErrState}, {0, 1536, 128, api.ErrState}, {1, 1664, 128, api.ErrState}, {2, 2304, 64, api.ErrState},
		// No large one of this size begins there.
		{0, 512, 512, api.ErrRange}, {0, 512, 1024, api.ErrRange}, {0, 576, 256, api.ErrRange}, {0, 513, 256, api.ErrRange}, {0, 511, 256, api.ErrRange}, {0, 767, 256, api.ErrRange}, {1, 1792, 256, api.ErrRange}, {1, 1792, 1024, api.ErrRange}, {1, 2048, 256, api.ErrRange}, {1, 2048, 512, api.ErrRange}, {1, 1791, 512, api.ErrRange}, {1, 1793, 512, api.ErrRange}, {0, 0, 256, api.ErrRange}, {0, 112, 256, api.ErrRange}, {1, 1536, 256, api.ErrRange}, {2, 2304, 256, api.ErrRange}, {2, 2304, 512, api.ErrRange}, {0, 2560, 256, api.ErrRange}, {0, -1, 256, api.ErrRange}, {0, -64, 256, api.ErrRange}, {0, -256, 256, api.ErrRange}, {0, math.MinInt, 512, api.ErrRange}, {0, math.MaxInt, 512, api.ErrRange}, {0, 1 << 32, 256, api.ErrRange}, {0, 1<<32 + 512, 256, api.ErrRange}, {0, 512, 1 << 32, api.ErrRange}, {0, 512, 1 << 62, api.ErrRange},
		// It is kept; of another size there is none.
		{0, 256, 256, api.ErrState}, {1, 256, 256, api.ErrState}, {2, 768, 512, api.ErrState}, {0, 256, 512, api.ErrRange}, {0, 768, 256, api.ErrRange}, {0, 1024, 256, api.ErrRange}, {0, 768, 1024, api.ErrRange},
		// There is no such size.
		{0, 112, 0, api.ErrArg}, {0, 112, 8, api.ErrArg}, {0, 112, 15, api.ErrArg}, {0, 112, 17, api.ErrArg}, {0, 512, 255, api.ErrArg}, {0, 512, 192, api.ErrArg}, {0, 512, 320, api.ErrArg}, {0, 512, -256, api.ErrArg}, {0, 512, math.MinInt, api.ErrArg}, {0, 512, math.MaxInt, api.ErrArg}, {0, 512, 3 << 61, api.ErrArg}, {0, 256, 257, api.ErrArg}, {0, -1, 100, api.ErrArg},
		// There is no such processor: that is told first.
		{3, 112, 16, api.ErrArg}, {3, 512, 256, api.ErrArg}, {-1, 112, 16, api.ErrArg}, {-1, 512, 256, api.ErrArg}, {3, 113, 16, api.ErrArg}, {3, 0, 16, api.ErrArg}, {3, 513, 256, api.ErrArg}, {3, 256, 256, api.ErrArg}, {16, 512, 256, api.ErrArg}, {math.MinInt, 512, 256, api.ErrArg}, {math.MaxInt, 112, 16, api.ErrArg}, {1 << 32, 512, 256, api.ErrArg}, {3, 112, 17, api.ErrArg},
	} {
		for _, on := range []bool{false, true} {
			s := start(t)
			if on {
				s.collect(t, true)
			}
			if e := s.fr(t, c.proc, c.at, c.words); e != c.e {
				t.Errorf("P12.1, P0.2: Free(%d, %d, %d): %v, not %v", c.proc, c.at, c.words, e, c.e)
			}
			s.same(t, "Free", c.proc, c.at, c.words, on)
		}
	}
}

// TestFreeTwice frees each stack twice: what went to the heap isn't there any more, all else is in a list.
func TestFreeTwice(t *testing.T) {
	for _, on := range []bool{false, true} {
		s := start(t)
		if on {
			s.collect(t, true)
		}
		for _, c := range []struct {
			at, words int
			e         api.Errno
		}{{112, 16, api.ErrState}, {2368, 64, api.ErrState}, {512, 256, api.ErrState}, {1280, 256, api.ErrRange}, {1792, 512, api.ErrState}} {
			if on && c.e == api.ErrRange {
				c.e = api.ErrState
			}
			s.fr(t, 1, c.at, c.words)
			for proc := range 3 {
				if e := s.fr(t, proc, c.at, c.words); e != c.e {
					t.Errorf("P12.1: with a collection (%v): Free(%d, %d, %d) for the second time: %v, not %v", on, proc, c.at, c.words, e, c.e)
				}
			}
			if e := s.fr(t, 1, c.at, 2*c.words); e != api.ErrRange {
				t.Errorf("P12.1: with a collection (%v): Free(1, %d, %d) of the double: %v", on, c.at, 2*c.words, e)
			}
			s.same(t, "Free", c.at, on)
		}
		s.end(t, "Free twice")
	}
}

// TestListsOfProcessors frees into the list of the processor that frees, and makes of the list of the one that makes.
func TestListsOfProcessors(t *testing.T) {
	s := made(t, 8, 2)
	s.mk(t, 0, 128, 128)
	s.fr(t, 1, 0, 128)
	if !slices.Equal(s.c.List(1, 3), []int{0}) || len(s.c.List(0, 3)) != 0 {
		t.Errorf("P12.1: the lists are %v, %v", s.c.List(0, 3), s.c.List(1, 3))
	}
	if at, e := s.mk(t, 0, 128); at != 256 || e != api.OK {
		t.Errorf("P12.1: Make by 0 = %d, %v", at, e)
	}
	if at, e := s.mk(t, 1, 128); at != 0 || e != api.OK {
		t.Errorf("P12.1: Make by 1 = %d, %v", at, e)
	}
}

// TestCollection has a collection open: what is freed waits, or stays in the pool, till it is closed.
func TestCollection(t *testing.T) {
	s := start(t)
	if e := s.Close(); e != api.ErrState || s.Collects() || s.p.Hold(false) || s.k.Hold(false) {
		t.Errorf("P12.1: Close, where none is open: %v", e)
	}
	for range 2 {
		s.collect(t, true)
		s.same(t, "Open")
		if e := s.Open(); e != api.ErrState || !s.Collects() || !s.p.Hold(true) || !s.k.Hold(true) {
			t.Errorf("P12.1: Open, where one is open: %v, %v", e, s.Collects())
		}
		s.same(t, "Open for the second time")
		s.collect(t, false)
		s.same(t, "Close")
		if e := s.Close(); e != api.ErrState || s.Collects() || s.p.Hold(false) || s.k.Hold(false) {
			t.Errorf("P12.1: Close for the second time: %v, %v", e, s.Collects())
		}
	}
	s.collect(t, true)
	for _, x := range [][2]int{{112, 16}, {2368, 64}, {512, 256}, {1792, 512}, {1280, 256}} {
		s.fr(t, 2, x[0], x[1])
	}
	s.same(t, "all is freed")
	if !slices.Equal(s.k.Waits(), []int{3, 7, 5}) || !slices.Equal(s.k.Kept(4), []int{2}) || !slices.Equal(s.k.Kept(8), []int{4}) {
		t.Errorf("P12.1: open: kept are %v, %v, %v wait", s.k.Kept(4), s.k.Kept(8), s.k.Waits())
	}
	s.mk(t, 0, 256, 256)
	if !slices.Equal(s.there(), []int{256}) {
		t.Errorf("P12.1: open: of those that wait one is taken: %v", s.there())
	}
	if n := s.fl(t); n != 0 || len(s.h.Spans()) != 8 || len(s.c.All()) != 0 || len(s.p.Out()) != 0 || len(s.k.Kept(8)) != 1 {
		t.Errorf("P12.1: open: Flush = %d, the spans are %v", n, s.h.Spans())
	}
	s.same(t, "open: Flush")
	s.collect(t, false)
	s.same(t, "closed")
	if got, want := s.h.Runs(), []api.Run{{Start: 0, Len: 4}, {Start: 8, Len: 4}, {Start: 20, Len: 20}}; !slices.Equal(got, want) || len(s.k.Waits()) != 0 {
		t.Errorf("P12.1: closed: the free runs are %v, not %v; %v wait", got, want, s.k.Waits())
	}
	if n := s.fl(t); n != 1 {
		t.Errorf("P12.1: closed: Flush = %d", n)
	}
	s.end(t, "collection")
}

// TestFlush empties the lists of all processors, and those of what is kept.
func TestFlush(t *testing.T) {
	for procs := 1; procs <= 16; procs++ {
		for _, on := range []bool{false, true} {
			s := made(t, 200, procs)
			for proc := range procs {
				s.mk(t, proc, 16, 128, 64, 32)
			}
			s.mk(t, 0, 256, 256, 256, 512, 1024, 1024)
			for _, at := range s.there() {
				s.fr(t, at%procs, at, len(s.words[at]))
			}
			s.same(t, "all is freed", procs)
			if on {
				s.collect(t, true)
			}
			want := 5
			if on {
				want = 0
			}
			if n := s.fl(t); n != want || len(s.c.All()) != 0 || (len(s.h.Spans()) == 0) == on {
				t.Errorf("P12.1: %d processors, a collection (%v): Flush = %d, not %d; the spans are %v", procs, on, n, want, s.h.Spans())
			}
			s.same(t, "Flush", procs)
			if n := s.fl(t); n != 0 {
				t.Errorf("P12.1: %d processors: Flush for the second time = %d", procs, n)
			}
			s.same(t, "Flush for the second time", procs)
			s.end(t, "Flush", procs, on)
		}
	}
	s := start(t)
	there := s.there()
	if n := s.fl(t); n != 2 || !slices.Equal(s.p.Out(), []int{112, 2368}) || len(s.c.All()) != 0 {
		t.Errorf("P12.1: Flush = %d, out are %v, in lists %v", n, s.p.Out(), s.c.All())
	}
	s.same(t, "Flush")
	if got, want := s.h.Runs(), []api.Run{{Start: 4, Len: 4}, {Start: 12, Len: 8}, {Start: 24, Len: 4}}; !slices.Equal(got, want) || !slices.Equal(s.there(), there) {
		t.Errorf("P12.1: behind Flush the free runs are %v, not %v", got, want)
	}
}

// TestParts asks for the parts twice, and whether they belong together: of one arena the links of lists are, and of one heap all spans.
func TestParts(t *testing.T) {
	s := start(t)
	a, h, p, k, c := s.Parts()
	if a == nil || a != s.a || h == nil || h != s.h || p == nil || p != s.p || k == nil || k != s.k || c == nil || c != s.c {
		t.Error("P12.1: other parts the second time")
	}
	for _, l := range [][]int{c.List(0, 0), c.List(1, 3), c.List(2, 2), p.List(0), p.List(2)} {
		for i, at := range l {
			want := uint64(0)
			if i+1 < len(l) {
				want = uint64(l[i+1] + 1)
			}
			if w, e := a.Load(at); w != want || e != api.OK {
				t.Errorf("P12.1: the link at %d is %d, %v, not %d", at, w, e, want)
			}
		}
	}
	if got, want := p.Out(), []int{0, 16, 32, 48, 64, 80, 96, 112, 1536, 1664, 2304, 2368}; !slices.Equal(got, want) {
		t.Errorf("P12.1: out of the pool are %v, not %v", got, want)
	}
	for _, id := range slices.Concat(k.Kept(4), k.Kept(8)) {
		if x, there := h.Span(id); !there || x.Order != api.Large {
			t.Errorf("P12.1: the heap has no large span %d: %v", id, x)
		}
	}
}

// TestExample is the chapter's.
func TestExample(t *testing.T) {
	s, e := stacks.New(8, 1)
	if e != api.OK {
		t.Fatal(e)
	}
	if at, e := s.Make(0, 300); at != 0 || e != api.ErrArg {
		t.Errorf("P12.1: Make of 300 words: %d, %v", at, e)
	}
	if at, e := s.Make(0, 16); at != 112 || e != api.OK {
		t.Errorf("P12.1: Make of a small one: %d, %v", at, e)
	}
	if at, e := s.Make(0, 512); at != 0 || e != api.ErrMemory {
		t.Errorf("P12.1: Make of 512 words behind it: %d, %v", at, e)
	}
	if at, e := s.Make(0, 256); at != 256 || e != api.OK {
		t.Errorf("P12.1: Make of 256 words behind it: %d, %v", at, e)
	}
}

// TestTwoKeptOfASize is the document's ninth example: a third one's pages are free at once.
func TestTwoKeptOfASize(t *testing.T) {
	s := made(t, 12, 1)
	s.mk(t, 0, 256, 256, 256)
	for _, at := range []int{0, 512, 256} {
		s.fr(t, 0, at, 256)
	}
	if !slices.Equal(s.k.Kept(4), []int{1, 3}) || !slices.Equal(s.h.Runs(), []api.Run{{Start: 4, Len: 4}}) {
		t.Errorf("P12.1: kept are %v, free are %v", s.k.Kept(4), s.h.Runs())
	}
	s.mk(t, 0, 256)
	if !slices.Equal(s.there(), []int{512}) {
		t.Errorf("P12.1: not the one that was given last is taken: %v", s.there())
	}
	s.end(t, "two of a size")
}

// TestAllShortRows does all rows of calls, up to a length.
func TestAllShortRows(t *testing.T) {
	const kinds, length = 8, 5
	rows := 1
	for range length {
		rows *= kinds
	}
	for row := range rows {
		s := made(t, 8, 2)
		s.mk(t, 1, 128)
		for x, n := row, length; n > 0; x, n = x/kinds, n-1 {
			l := s.there()
			switch x % kinds {
			case 0:
				s.mk(t, 0, 64)
			case 1:
				s.mk(t, 1, 256)
			case 2:
				s.mk(t, 0, 512)
			case 3, 4:
				if len(l) > 0 {
					at := l[(len(l)-1)*(x%kinds-3)]
					s.fr(t, x%kinds-3, at, len(s.words[at]))
				}
			case 5:
				s.collect(t, true)
			case 6:
				s.collect(t, false)
			default:
				s.fl(t)
			}
		}
		s.same(t, "row", row)
		s.end(t, "row", row)
	}
}

// wrong frees something that may not be: it isn't there, or has another size, or was freed.
func (s *stand) wrong(t *testing.T, r *rule) {
	t.Helper()
	procs, words := len(s.m.procs), 16<<r.below(8)
	switch l := s.there(); r.below(5) {
	case 0:
		s.fr(t, r.below(procs+2)-1, 16*r.below(s.a.Words()/16+2)-16, words)
	case 1:
		s.fr(t, r.below(procs), 256*r.below(s.a.Words()/256+1), words)
	case 2:
		if len(l) > 0 {
			s.fr(t, r.below(procs), l[r.below(len(l))], words)
		}
	case 3:
		if in := s.c.All(); len(in) > 0 {
			s.fr(t, r.below(procs), in[r.below(len(in))], 16<<r.below(5))
		}
	default:
		for _, x := range slices.Concat(s.m.kept, s.m.waits) {
			s.fr(t, r.below(procs), 64*x.Start, 64*x.Len>>r.below(2))
		}
	}
}

// some does something, by chance that hangs on the rule alone.
func (s *stand) some(t *testing.T, r *rule) {
	t.Helper()
	proc := r.below(len(s.m.procs))
	switch k := r.below(50); {
	case k < 18:
		s.mk(t, proc, 16<<r.below(4))
	case k < 24:
		s.mk(t, proc, 256<<r.below(3))
	case k < 40:
		if l := s.there(); len(l) > 0 {
			at := l[r.below(len(l))]
			s.fr(t, proc, at, len(s.words[at]))
		}
	case k < 44:
		s.wrong(t, r)
	case k < 47:
		s.collect(t, r.below(2) == 0)
	case k < 48:
		s.fl(t)
	default:
		s.mk(t, r.below(len(s.m.procs)+2)-1, 8<<r.below(12))
	}
}

// TestRowsOfCalls holds long rows of calls against the model.
func TestRowsOfCalls(t *testing.T) {
	for seed := range 30 {
		r := rule(seed)
		s := made(t, 5+11*(seed%7), 1+seed%5)
		for range 400 {
			s.some(t, &r)
			s.same(t, "seed", seed)
		}
		s.end(t, "seed", seed)
		words := 256
		for 2*words <= s.a.Words() {
			words *= 2
		}
		s.mk(t, 0, words)
		if len(s.words) != 1 {
			t.Fatalf("P12.3: seed %d: all went, but there is no room for %d words of %d", seed, words, s.a.Words())
		}
	}
}

// TestLongLists makes and frees more small stacks of an order than a list has: it is emptied to half of them.
func TestLongLists(t *testing.T) {
	for _, words := range []int{16, 32, 64, 128} {
		s := made(t, 40, 2)
		for range 2560 / words {
			s.mk(t, 0, words)
		}
		for _, at := range s.there() {
			s.fr(t, 1, at, words)
			s.same(t, "Free", at)
			if l := s.c.List(1, order(words)); len(l)*words > 256 {
				t.Fatalf("P12.1: a list has %d blocks of %d words", len(l), words)
			}
		}
		s.end(t, "long lists", words)
	}
}

// TestNil asks nil stacks all.
func TestNil(t *testing.T) {
	var s *stacks.Stacks
	for _, n := range numbers() {
		for _, words := range []int{16, 256, n} {
			if at, e := s.Make(n, words); at != 0 || e != api.ErrArg {
				t.Errorf("P12.1: nil: Make(%d, %d) = %d, %v", n, words, at, e)
			}
			if at, e := s.Make(0, words); at != 0 || e != api.ErrArg {
				t.Errorf("P12.1: nil: Make(0, %d) = %d, %v", words, at, e)
			}
			if e, f := s.Free(0, n, words), s.Free(n, 0, words); e != api.ErrArg || f != api.ErrArg {
				t.Errorf("P12.1: nil: Free of %d, %d: %v, %v", n, words, e, f)
			}
		}
		if s.Procs(n) || s.Procs(0, n) {
			t.Errorf("P12.1: nil: there is a processor %d", n)
		}
	}
	if e, f, g := s.Open(), s.Close(), s.Open(); e != api.ErrState || f != api.ErrState || g != api.ErrState || s.Collects() {
		t.Errorf("P12.1: nil: Open: %v, Close: %v, Open: %v, %v", e, f, g, s.Collects())
	}
	if n := s.Flush(); n != 0 || !s.Procs() || !s.Procs([]int{}...) {
		t.Errorf("P12.1: nil: Flush = %d, Procs of none = %v", n, s.Procs())
	}
	if a, h, p, k, c := s.Parts(); a != nil || h != nil || p != nil || k != nil || c != nil {
		t.Errorf("P12.1: nil: the parts are %v, %v, %v, %v, %v", a, h, p, k, c)
	}
}

// TestAllNumbers hands in all numbers: a panic ends the test, and what may not be is refused, and changes nothing.
func TestAllNumbers(t *testing.T) {
	for _, n := range numbers() {
		for _, on := range []bool{false, true} {
			s := start(t)
			if on {
				s.collect(t, true)
			}
			s.mk(t, n, 16, 256, n)
			s.mk(t, 0, n)
			s.same(t, "Make", n)
			for _, words := range []int{16, 64, 128, 256, 512, n} {
				s.fr(t, 1, n, words)
				s.fr(t, n, n, words)
				s.fr(t, n, 1280, words)
			}
			s.fr(t, 0, 112, n)
			s.fr(t, 0, 1792, n)
			s.fr(t, 0, 256, n)
			s.same(t, "Free", n)
			s.end(t, "all numbers", n)
		}
	}
}

// TestListsAreLeft hands in lists with room behind them.
func TestListsAreLeft(t *testing.T) {
	s := start(t)
	room := []int{0, 2, 1, 3, 16, 256, 8, -1}
	were := slices.Clone(room)
	for n := range len(room) + 1 {
		if s.Procs(room[:n]...) != (n <= 3) || stacks.Sizes(room[:n]...) != (n == 0) || stacks.Sizes(room[4:4+n/2]...) != (n/2 <= 2) {
			t.Errorf("P12.1: of the first %d of %v", n, room)
		}
		if !slices.Equal(room, were) {
			t.Fatalf("P0.4: a list is changed: %v", room)
		}
	}
	s.same(t, "Procs and Sizes")
}

// TestTwoStacks has two stacks at once: what is done to one doesn't change the other one.
func TestTwoStacks(t *testing.T) {
	s, other := start(t), start(t)
	r := rule(7)
	for range 100 {
		s.some(t, &r)
	}
	s.same(t, "the one")
	other.same(t, "the other one")
	other.end(t, "the other one")
	s.same(t, "the one")
}

// TestSameAnswersAgain does the same row of calls to two stacks, one behind the other.
func TestSameAnswersAgain(t *testing.T) {
	do := func() []int {
		s, r := made(t, 36, 3), rule(99)
		var l []int
		for range 400 {
			proc, words := r.below(3), 16<<r.below(6)
			at, e := s.Make(proc, words)
			l = append(l, at, int(e))
			if r.below(2) == 0 {
				l = append(l, int(s.Free(r.below(3), at, words)))
			}
			switch r.below(20) {
			case 0:
				l = append(l, s.Flush())
			case 1:
				l = append(l, int(s.Open()))
			case 2:
				l = append(l, int(s.Close()))
			}
			l = append(l, s.c.All()...)
			l = append(l, s.k.Waits()...)
		}
		return l
	}
	if !slices.Equal(do(), do()) {
		t.Error("P0.6: the same calls answer otherwise the second time")
	}
}
