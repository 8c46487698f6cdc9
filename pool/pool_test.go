package pool_test

import (
	"math"
	"slices"
	"testing"

	"shoring/api"
	"shoring/arena"
	"shoring/heap"
	"shoring/pool"
)

// The signatures are exact: another one doesn't compile here.
var (
	_ func(*heap.Heap, *arena.Arena) *pool.Pool = pool.New
	_ func(*pool.Pool, int) (int, api.Errno)    = (*pool.Pool).Take
	_ func(*pool.Pool, ...int) api.Errno        = (*pool.Pool).Give
	_ func(*pool.Pool, bool) bool               = (*pool.Pool).Hold
	_ func(*pool.Pool, int) []int               = (*pool.Pool).List
	_ func(*pool.Pool, int) []api.Span          = (*pool.Pool).Spans
	_ func(*pool.Pool) []int                    = (*pool.Pool).Out
	_ func(*pool.Pool, int) int                 = (*pool.Pool).Order
)

// rule makes numbers one behind the other, that hang on the one it starts with alone.
type rule uint64

// next is the rule's next number.
func (r *rule) next() uint64 {
	*r = *r*6364136223846793005 + 1442695040888963407
	x := uint64(*r)
	return x ^ x>>29
}

// below is a number from 0 to n-1.
func (r *rule) below(n int) int { return int(r.next() >> 1 % uint64(n)) }

// numbers are those around orders, blocks and the ends of a heap of 40 pages, around words, and both ends of an int.
func numbers() []int {
	l := []int{math.MinInt, math.MinInt + 1, math.MinInt + 640, -1 << 32, -1 << 31, -2560, -640, -64, -16}
	for _, n := range []int{0, 4, 16, 32, 64, 128, 256, 640, 2560, 65536, 1 << 31, 1 << 32, 1<<32 + 640, 1 << 58, 1 << 62} {
		for d := -2; d <= 2; d++ {
			l = append(l, n+d)
		}
	}
	return append(l, math.MaxInt-640, math.MaxInt-64, math.MaxInt-1, math.MaxInt)
}

// sizes are how many words the blocks of each order have.
func sizes() []int { return []int{16, 32, 64, 128} }

// steps are numbers from one on to another, the last one too.
func steps(from, to, by int) []int {
	var l []int
	for x := from; x <= to; x += by {
		l = append(l, x)
	}
	return l
}

// span is a span of its number, the first of its four pages, and its order.
func span(id, start, order int) api.Span {
	return api.Span{ID: id, Run: api.Run{Start: start, Len: 4}, Order: order}
}

// part is a span that the pool made: its blocks in its list, the first one first, and those that are out.
type part struct {
	api.Span
	in, out []int
}

// model is what a pool, its heap and its arena are held against: of each page the number of its span, or 0; all words; and the pool's spans, as they were made.
type model struct {
	pages []int
	made  int
	words []uint64
	parts []*part
	held  bool
}

// fresh is the model of a heap all of whose pages are free, and of an arena none of whose words is 0 or an address and 1.
func fresh(pages int) *model {
	m := &model{pages: make([]int, pages), words: make([]uint64, 64*pages)}
	r := rule(3)
	for at := range m.words {
		m.words[at] = r.next() | 1<<40
	}
	return m
}

// runs are the runs of free pages, found from their ends on.
func (m *model) runs() []api.Run {
	var l []api.Run
	for start := range m.pages {
		if m.pages[start] != 0 || start > 0 && m.pages[start-1] == 0 {
			continue
		}
		end := start
		for end < len(m.pages) && m.pages[end] == 0 {
			end++
		}
		l = append(l, api.Run{Start: start, Len: end - start})
	}
	return l
}

// make is what the heap should make; the lengths are gone through, from the tightest one on.
func (m *model) make(n, order int) (api.Span, bool) {
	for want := n; want <= len(m.pages); want++ {
		for _, r := range m.runs() {
			if r.Len != want {
				continue
			}
			m.made++
			for page := r.Start; page < r.Start+n; page++ {
				m.pages[page] = m.made
			}
			return api.Span{ID: m.made, Run: api.Run{Start: r.Start, Len: n}, Order: order}, true
		}
	}
	return api.Span{}, false
}

// free lets a span's pages be free.
func (m *model) free(id int) {
	for page, x := range m.pages {
		if x == id {
			m.pages[page] = 0
		}
	}
}

// lay writes all links of a span's list anew.
func (m *model) lay(x *part) {
	for i, at := range x.in {
		m.words[at] = 0
		if i+1 < len(x.in) {
			m.words[at] = uint64(x.in[i+1] + 1)
		}
	}
}

// cut makes a span, whose blocks are counted till the next one doesn't fit.
func (m *model) cut(order int) *part {
	s, fits := m.make(4, order)
	if !fits {
		return nil
	}
	x := &part{Span: s}
	for at := 64 * s.Start; at+sizes()[order] <= 64*(s.Start+4); at += sizes()[order] {
		x.in = append(x.in, at)
	}
	m.lay(x)
	m.parts = append(m.parts, x)
	return x
}

// take is what Take should answer.
func (m *model) take(order int) (int, api.Errno) {
	if order < 0 || order > 3 {
		return 0, api.ErrArg
	}
	var best *part
	for _, x := range m.parts {
		if x.Order == order && len(x.in) > 0 && (best == nil || x.Start < best.Start) {
			best = x
		}
	}
	if best == nil {
		best = m.cut(order)
	}
	if best == nil {
		return 0, api.ErrMemory
	}
	at := best.in[0]
	best.in, best.out = slices.Clone(best.in[1:]), append(best.out, at)
	m.words[at] = 0
	return at, api.OK
}

// of is the span of a block, and whether it is out.
func (m *model) of(at int) (*part, bool) {
	for _, x := range m.parts {
		if slices.Contains(x.in, at) || slices.Contains(x.out, at) {
			return x, slices.Contains(x.out, at)
		}
	}
	return nil, false
}

// give is what Give should answer.
func (m *model) give(at []int) api.Errno {
	e := api.OK
	for i, a := range at {
		x, out := m.of(a)
		if x == nil {
			return api.ErrRange
		}
		if !out || slices.Contains(at[:i], a) {
			e = api.ErrState
		}
	}
	if e != api.OK {
		return e
	}
	for _, a := range at {
		x, _ := m.of(a)
		x.out = slices.DeleteFunc(x.out, func(b int) bool { return b == a })
		x.in = slices.Insert(x.in, 0, a)
		m.lay(x)
	}
	m.trim()
	return api.OK
}

// trim frees what is whole.
func (m *model) trim() {
	var stay []*part
	for _, x := range m.parts {
		if len(x.out) == 0 && !m.held {
			m.free(x.ID)
		} else {
			stay = append(stay, x)
		}
	}
	m.parts = stay
}

// hold is what Hold should answer.
func (m *model) hold(on bool) bool {
	was := m.held
	m.held = on
	m.trim()
	return was
}

// spans are those of an order, as their pages come.
func (m *model) spans(order int) []*part {
	var l []*part
	for page := range m.pages {
		for _, x := range m.parts {
			if x.Start == page && x.Order == order {
				l = append(l, x)
			}
		}
	}
	return l
}

// outs are all blocks that are out, rising.
func (m *model) outs() []int {
	var l []int
	for _, x := range m.parts {
		l = append(l, x.out...)
	}
	slices.Sort(l)
	return l
}

// order is what Order should answer.
func (m *model) order(at int) int {
	if x, out := m.of(at); out {
		return x.Order
	}
	return -1
}

// stand is a pool with its heap and its arena, and the model of all three.
type stand struct {
	h *heap.Heap
	a *arena.Arena
	p *pool.Pool
	m *model
}

// made is a stand of so many pages, none of which is a span's.
func made(t *testing.T, pages int) *stand {
	t.Helper()
	m := fresh(pages)
	h, e := heap.New(pages)
	a, f := arena.New(pages)
	if e != api.OK || f != api.OK || a.Store(0, m.words...) != api.OK {
		t.Fatalf("a heap and an arena of %d pages: %v, %v", pages, e, f)
	}
	p := pool.New(h, a)
	if p == nil {
		t.Fatalf("P9.1: New of %d pages: nil", pages)
	}
	return &stand{h, a, p, m}
}

// take takes blocks of these orders, and holds what is answered.
func (s *stand) take(t *testing.T, orders ...int) {
	t.Helper()
	for _, order := range orders {
		want, e := s.m.take(order)
		if got, ge := s.p.Take(order); got != want || ge != e {
			t.Fatalf("P9.1: Take(%d) = %d, %v, not %d, %v", order, got, ge, want, e)
		}
	}
}

// give gives blocks back, and holds what is answered.
func (s *stand) give(t *testing.T, at ...int) {
	t.Helper()
	out, want := s.m.outs(), s.m.give(at)
	if got := s.p.Give(at...); got != want {
		t.Fatalf("P9.1: of %v out: Give(%v): %v, not %v", out, at, got, want)
	}
}

// hold holds the pool, or not, and holds what is answered.
func (s *stand) hold(t *testing.T, on bool) {
	t.Helper()
	want := s.m.hold(on)
	if got := s.p.Hold(on); got != want {
		t.Fatalf("P9.1: Hold(%v) = %v, not %v", on, got, want)
	}
}

// other makes a span that the pool doesn't know.
func (s *stand) other(t *testing.T, pages, order int) {
	t.Helper()
	want, fits := s.m.make(pages, order)
	if got, e := s.h.Make(pages, order); got != want || fits != (e == api.OK) {
		t.Fatalf("P9.1: beside a pool: Make(%d, %d) = %v, %v, not %v", pages, order, got, e, want)
	}
}

// freeOther frees such a span.
func (s *stand) freeOther(t *testing.T, id int) {
	t.Helper()
	s.m.free(id)
	if e := s.h.Free(id); e != api.OK {
		t.Fatalf("P9.1: beside a pool: Free(%d): %v", id, e)
	}
}

// same asks a pool, its heap and its arena all they tell: they must be the model's.
func (s *stand) same(t *testing.T, what ...any) {
	t.Helper()
	for order := -2; order <= 5; order++ {
		var spans []api.Span
		var in []int
		for _, x := range s.m.spans(order) {
			spans, in = append(spans, x.Span), append(in, x.in...)
		}
		if got := s.p.Spans(order); !slices.Equal(got, spans) {
			t.Fatalf("P9.1, P0.3: %v: Spans(%d) = %v, not %v", what, order, got, spans)
		}
		if got := s.p.List(order); !slices.Equal(got, in) {
			t.Fatalf("P9.1, P0.3: %v: List(%d) = %v, not %v", what, order, got, in)
		}
	}
	if got, want := s.p.Out(), s.m.outs(); !slices.Equal(got, want) {
		t.Fatalf("P9.1, P0.3: %v: Out is %v, not %v", what, got, want)
	}
	for at := -16; at <= len(s.m.words); at += 16 {
		if got, want := s.p.Order(at), s.m.order(at); got != want {
			t.Fatalf("P9.1, P0.3: %v: Order(%d) = %d, not %d", what, at, got, want)
		}
	}
	if got, want := s.h.Runs(), s.m.runs(); !slices.Equal(got, want) {
		t.Fatalf("P9.1, P9.3, P0.3: %v: the free runs are %v, not %v", what, got, want)
	}
	if got, e := s.a.Row(0, s.a.Words()); e != api.OK || !slices.Equal(got, s.m.words) {
		t.Fatalf("P9.1, P0.3: %v: other words are in the arena: %v", what, e)
	}
	s.each(t, what...)
}

// each counts the blocks of the pool's spans, as it tells them itself: each is once out, or in a list.
func (s *stand) each(t *testing.T, what ...any) {
	t.Helper()
	told := map[int]int{}
	for _, at := range s.p.Out() {
		told[at]++
	}
	blocks, spans := 0, 0
	for order, size := range sizes() {
		for _, at := range s.p.List(order) {
			told[at]++
		}
		for _, x := range s.p.Spans(order) {
			if there, is := s.h.Span(x.ID); !is || there != x || x.Len != 4 || x.Order != order {
				t.Fatalf("P9.1: %v: the pool's span %v of the order %d is the heap's %v, %v", what, x, order, there, is)
			}
			spans++
			for at := 64 * x.Start; at < 64*(x.Start+4); at += size {
				blocks++
				if told[at] != 1 {
					t.Fatalf("P9.2: %v: the block %d of %v is told %d times", what, at, x, told[at])
				}
			}
		}
	}
	if len(told) != blocks {
		t.Fatalf("P9.2: %v: %d addresses are told, of %d blocks", what, len(told), blocks)
	}
	if len(s.p.Out()) == 0 && !s.m.held && spans != 0 {
		t.Fatalf("P9.3: %v: no block is out, but there are %d spans", what, spans)
	}
}

// start is the stand that the tables begin with, of 40 pages. The spans 1 (of 0, 1) and 2 (of 2 to 5) aren't the pool's; 34 to 39 are free. Of the pool's are
//
//	order 0: 7 (from 22 on): 1408 is out
//	order 1: 4 (from 10 on): 640, 704 are in its list, the others out; 5 (from 14 on): 896 is out
//	order 2: 9 (from 6 on): 384 is out; 8 (from 26 on): 1728 is in its list, the others out
//	order 3: 6 (from 18 on): 1152 is in its list, 1280 out; 10 (from 30 on): 1920 is out, 2048 in its list
func start(t *testing.T) *stand {
	t.Helper()
	s := made(t, 40)
	s.other(t, 2, api.Large)
	s.other(t, 4, 1)
	s.other(t, 4, 0)
	s.take(t, 1, 1, 1, 1, 1, 1, 1, 1, 1)
	s.take(t, 3, 3, 0, 2, 2, 2, 2)
	// What goes here lets a younger span stand ahead of the elder ones.
	s.freeOther(t, 3)
	s.take(t, 2)
	s.give(t, 1728)
	s.give(t, 704, 640)
	s.take(t, 3)
	s.give(t, 1152)
	s.same(t, "start")
	return s
}

// TestStart tells what the tables begin with.
func TestStart(t *testing.T) {
	s := start(t)
	if got, want := s.p.Out(), []int{384, 672, 736, 768, 800, 832, 864, 896, 1280, 1408, 1664, 1792, 1856, 1920}; !slices.Equal(got, want) {
		t.Errorf("P9.1: Out: %v, not %v", got, want)
	}
	for order, want := range [][]api.Span{{span(7, 22, 0)}, {span(4, 10, 1), span(5, 14, 1)}, {span(9, 6, 2), span(8, 26, 2)}, {span(6, 18, 3), span(10, 30, 3)}} {
		if got := s.p.Spans(order); !slices.Equal(got, want) {
			t.Errorf("P9.1: Spans(%d): %v, not %v", order, got, want)
		}
	}
	for order, want := range [][]int{steps(1424, 1648, 16), {640, 704, 928, 960, 992, 1024, 1056, 1088, 1120}, {448, 512, 576, 1728}, {1152, 2048}} {
		if got := s.p.List(order); !slices.Equal(got, want) {
			t.Errorf("P9.1: List(%d): %v, not %v", order, got, want)
		}
	}
	if got, want := s.h.Runs(), []api.Run{{Start: 34, Len: 6}}; !slices.Equal(got, want) {
		t.Errorf("P9.1: the free runs: %v, not %v", got, want)
	}
}

func TestNewTable(t *testing.T) {
	all := []int{4, 5, 8, 64, 1023, 1024}
	for _, n := range all {
		h, _ := heap.New(n)
		for _, k := range all {
			a, _ := arena.New(k)
			p := pool.New(h, a)
			if (p != nil) != (n == k) {
				t.Errorf("P9.1: New of %d pages, and of %d: %v", n, k, p)
			}
			if pool.New(nil, a) != nil {
				t.Errorf("P9.1: New of a nil heap, and of %d pages", k)
			}
		}
		if pool.New(h, nil) != nil {
			t.Errorf("P9.1: New of %d pages, and a nil arena", n)
		}
		s := made(t, n)
		s.same(t, "New", n)
		if s.p.Hold(false) {
			t.Errorf("P9.1: New of %d pages: it is held", n)
		}
	}
	if pool.New(nil, nil) != nil {
		t.Error("P9.1: New of a nil heap and a nil arena")
	}
}

// TestNewOfHeapWithSpans makes a pool of a heap that has spans, the orders and pages of which a pool's might have: it has none of them.
func TestNewOfHeapWithSpans(t *testing.T) {
	s := made(t, 32)
	for order := range 4 {
		s.other(t, 4, order)
	}
	s.p = pool.New(s.h, s.a)
	s.same(t, "New of a heap with spans")
	for _, at := range []int{0, 16, 256, 288, 512, 768, 1023} {
		if e := s.p.Give(at); e != api.ErrRange {
			t.Errorf("P9.1: Give(%d), of a span that the pool didn't make: %v", at, e)
		}
	}
	s.take(t, 0, 1, 2, 3)
	if got, want := s.p.Out(), []int{1024, 1280, 1536, 1792}; !slices.Equal(got, want) {
		t.Errorf("P9.1: behind spans that the pool didn't make: Out is %v, not %v", got, want)
	}
	s.same(t, "Take beside spans")
	s.give(t, 1024, 1280, 1536, 1792)
	s.same(t, "Give beside spans")
	if got := s.h.Spans(); len(got) != 4 {
		t.Errorf("P9.1: the spans that the pool didn't make are %v", got)
	}
}

func TestTakeTable(t *testing.T) {
	for _, c := range []struct {
		orders []int
		at     int
		e      api.Errno
	}{
		// Of the span with the least Start whose list has blocks, be it the younger one; the first block of its list.
		{[]int{0}, 1424, api.OK}, {[]int{1}, 640, api.OK}, {[]int{2}, 448, api.OK}, {[]int{3}, 1152, api.OK},
		{[]int{0, 0}, 1440, api.OK}, {[]int{1, 1}, 704, api.OK}, {[]int{1, 1, 1}, 928, api.OK}, {[]int{2, 2, 2}, 576, api.OK}, {[]int{2, 2, 2, 2}, 1728, api.OK}, {[]int{3, 3}, 2048, api.OK},
		{[]int{3, 2, 1, 0}, 1424, api.OK}, {[]int{0, 1, 2, 3}, 1152, api.OK},
		// No lists have blocks any more: another span.
		{[]int{3, 3, 3}, 2176, api.OK}, {[]int{3, 3, 3, 3}, 2304, api.OK}, {[]int{2, 2, 2, 2, 2}, 2176, api.OK}, {[]int{2, 2, 2, 2, 2, 2}, 2240, api.OK}, {slices.Repeat([]int{1}, 10), 2176, api.OK}, {slices.Repeat([]int{0}, 16), 2176, api.OK}, {slices.Repeat([]int{0}, 17), 2192, api.OK},
		// The heap has no room for one more, though another order has blocks.
		{[]int{3, 3, 3, 3, 3}, 0, api.ErrMemory}, {[]int{3, 3, 3, 2, 2, 2, 2, 2}, 0, api.ErrMemory}, {slices.Repeat([]int{0}, 32), 0, api.ErrMemory}, {slices.Repeat([]int{1}, 18), 0, api.ErrMemory}, {slices.Repeat([]int{2}, 9), 0, api.ErrMemory}, {[]int{3, 3, 3, 3, 3, 3}, 0, api.ErrMemory}, {[]int{3, 3, 3, 3, 3, 0}, 1424, api.OK},
		// No such order.
		{[]int{-1}, 0, api.ErrArg}, {[]int{-2}, 0, api.ErrArg}, {[]int{4}, 0, api.ErrArg}, {[]int{5}, 0, api.ErrArg}, {[]int{16}, 0, api.ErrArg}, {[]int{64}, 0, api.ErrArg}, {[]int{math.MaxInt}, 0, api.ErrArg}, {[]int{math.MinInt}, 0, api.ErrArg}, {[]int{1 << 32}, 0, api.ErrArg}, {[]int{1<<32 + 1}, 0, api.ErrArg},
		{[]int{3, 3, 3, 3, 3, 4}, 0, api.ErrArg}, {[]int{4, 0}, 1424, api.OK},
	} {
		s := start(t)
		last := len(c.orders) - 1
		s.take(t, c.orders[:last]...)
		if at, e := s.p.Take(c.orders[last]); at != c.at || e != c.e {
			t.Errorf("P9.1, P0.2: Take of %v: the last one %d, %v, not %d, %v", c.orders, at, e, c.at, c.e)
		}
		s.m.take(c.orders[last])
		s.same(t, "Take", c.orders)
	}
}

// TestEachOrder takes all blocks of spans of an order, one behind the other, and one more.
func TestEachOrder(t *testing.T) {
	for order, size := range sizes() {
		for _, pages := range []int{4, 5, 7, 8, 12, 1024} {
			s := made(t, pages)
			spans := pages / 4
			for at := 0; at < 256*spans; at += size {
				if got, e := s.p.Take(order); got != at || e != api.OK {
					t.Fatalf("P9.1: of %d pages: Take(%d) = %d, %v, not %d", pages, order, got, e, at)
				}
				s.m.take(order)
				if n := len(s.p.Spans(order)); at < 4096 && n != at/256+1 {
					t.Fatalf("P9.1: of %d pages: Take(%d) of %d: there are %d spans", pages, order, at, n)
				}
			}
			for more := range sizes() {
				if got, e := s.p.Take(more); got != 0 || e != api.ErrMemory {
					t.Fatalf("P9.1: of %d pages: Take(%d) behind the last one: %d, %v", pages, more, got, e)
				}
			}
			s.same(t, "each order", order, pages)
			if got, want := s.p.Out(), steps(0, 256*spans-1, size); !slices.Equal(got, want) || len(s.p.List(order)) != 0 {
				t.Fatalf("P9.2: of %d pages, all of them taken: Out is %v", pages, got)
			}
			s.giveAll(t)
		}
	}
}

// giveAll gives all blocks back that are out: each third one by itself, then the others at once, the greatest address first.
func (s *stand) giveAll(t *testing.T) {
	t.Helper()
	var rest []int
	for i, at := range s.p.Out() {
		if i%3 == 0 {
			s.give(t, at)
		} else {
			rest = append(rest, at)
		}
	}
	s.same(t, "a third was given")
	slices.Reverse(rest)
	s.give(t, rest...)
	s.same(t, "all was given")
	if len(s.p.Out()) != 0 || len(s.h.Spans()) != 0 || !slices.Equal(s.h.Runs(), []api.Run{{Start: 0, Len: len(s.m.pages)}}) {
		t.Fatalf("P9.3: all blocks were given: out %v, spans %v, free %v", s.p.Out(), s.h.Spans(), s.h.Runs())
	}
}

func TestGiveTable(t *testing.T) {
	for _, c := range []struct {
		at    []int
		e     api.Errno
		order int
		list  []int
	}{
		{nil, api.OK, 3, []int{1152, 2048}}, {[]int{}, api.OK, 1, []int{640, 704, 928, 960, 992, 1024, 1056, 1088, 1120}},
		// One, and several, of one span: the last one is the first of its list then.
		{[]int{672}, api.OK, 1, []int{672, 640, 704, 928, 960, 992, 1024, 1056, 1088, 1120}}, {[]int{672, 864}, api.OK, 1, []int{864, 672, 640, 704, 928, 960, 992, 1024, 1056, 1088, 1120}}, {[]int{864, 736, 672}, api.OK, 1, []int{672, 736, 864, 640, 704, 928, 960, 992, 1024, 1056, 1088, 1120}}, {[]int{1664}, api.OK, 2, []int{448, 512, 576, 1664, 1728}}, {[]int{1856, 1664}, api.OK, 2, []int{448, 512, 576, 1664, 1856, 1728}},
		// The last one of a span that is out: the span goes.
		{[]int{1408}, api.OK, 0, nil}, {[]int{896}, api.OK, 1, []int{640, 704}}, {[]int{384}, api.OK, 2, []int{1728}}, {[]int{1280}, api.OK, 3, []int{2048}}, {[]int{1920}, api.OK, 3, []int{1152}}, {[]int{1280, 1920}, api.OK, 3, nil}, {[]int{1920, 1280}, api.OK, 3, nil},
		{[]int{1856, 1792, 1664}, api.OK, 2, []int{448, 512, 576}}, {[]int{1664, 384, 1792, 1856}, api.OK, 2, nil}, {[]int{672, 736, 768, 800, 832, 864}, api.OK, 1, []int{928, 960, 992, 1024, 1056, 1088, 1120}}, {[]int{864, 896, 832, 800, 768, 736, 672}, api.OK, 1, nil},
		// Of several spans and orders.
		{[]int{672, 1664}, api.OK, 2, []int{448, 512, 576, 1664, 1728}}, {[]int{1664, 1408, 672, 896, 1856, 1920}, api.OK, 1, []int{672, 640, 704}}, {[]int{1920, 1856, 1792, 1664, 1408, 1280, 896, 864, 832, 800, 768, 736, 672, 384}, api.OK, 3, nil},
		// No address of a block: beside one, in one, of a smaller order's, in free pages, and where no page is.
		{[]int{671}, api.ErrRange, 3, []int{1152, 2048}}, {[]int{673}, api.ErrRange, 3, []int{1152, 2048}}, {[]int{688}, api.ErrRange, 3, []int{1152, 2048}}, {[]int{656}, api.ErrRange, 3, []int{1152, 2048}}, {[]int{1344}, api.ErrRange, 3, []int{1152, 2048}}, {[]int{1216}, api.ErrRange, 3, []int{1152, 2048}}, {[]int{1312}, api.ErrRange, 3, []int{1152, 2048}}, {[]int{1296}, api.ErrRange, 3, []int{1152, 2048}}, {[]int{400}, api.ErrRange, 3, []int{1152, 2048}}, {[]int{416}, api.ErrRange, 3, []int{1152, 2048}}, {[]int{1416}, api.ErrRange, 3, []int{1152, 2048}},
		{[]int{639}, api.ErrRange, 2, []int{448, 512, 576, 1728}}, {[]int{895}, api.ErrRange, 2, []int{448, 512, 576, 1728}}, {[]int{2175}, api.ErrRange, 2, []int{448, 512, 576, 1728}}, {[]int{2176}, api.ErrRange, 2, []int{448, 512, 576, 1728}}, {[]int{2304}, api.ErrRange, 2, []int{448, 512, 576, 1728}}, {[]int{2559}, api.ErrRange, 2, []int{448, 512, 576, 1728}}, {[]int{2560}, api.ErrRange, 2, []int{448, 512, 576, 1728}},
		{[]int{-1}, api.ErrRange, 3, []int{1152, 2048}}, {[]int{-16}, api.ErrRange, 3, []int{1152, 2048}}, {[]int{-672}, api.ErrRange, 3, []int{1152, 2048}}, {[]int{math.MinInt}, api.ErrRange, 3, []int{1152, 2048}}, {[]int{math.MaxInt}, api.ErrRange, 3, []int{1152, 2048}}, {[]int{1<<32 + 672}, api.ErrRange, 3, []int{1152, 2048}}, {[]int{math.MinInt + 672}, api.ErrRange, 3, []int{1152, 2048}},
		// Of spans that the pool didn't make, of a block's address there, too.
		{[]int{0}, api.ErrRange, 1, []int{640, 704, 928, 960, 992, 1024, 1056, 1088, 1120}}, {[]int{64}, api.ErrRange, 3, []int{1152, 2048}}, {[]int{128}, api.ErrRange, 3, []int{1152, 2048}}, {[]int{160}, api.ErrRange, 3, []int{1152, 2048}}, {[]int{352}, api.ErrRange, 3, []int{1152, 2048}},
		// In a list: the first one, a middle one, the last one.
		{[]int{640}, api.ErrState, 3, []int{1152, 2048}}, {[]int{704}, api.ErrState, 3, []int{1152, 2048}}, {[]int{928}, api.ErrState, 3, []int{1152, 2048}}, {[]int{1120}, api.ErrState, 3, []int{1152, 2048}}, {[]int{1728}, api.ErrState, 3, []int{1152, 2048}}, {[]int{1424}, api.ErrState, 3, []int{1152, 2048}}, {[]int{1648}, api.ErrState, 3, []int{1152, 2048}}, {[]int{2048}, api.ErrState, 3, []int{1152, 2048}},
		{[]int{672, 640}, api.ErrState, 3, []int{1152, 2048}}, {[]int{640, 672}, api.ErrState, 3, []int{1152, 2048}}, {[]int{1408, 384, 2048}, api.ErrState, 0, steps(1424, 1648, 16)}, {[]int{2048, 1920}, api.ErrState, 3, []int{1152, 2048}},
		// Named twice.
		{[]int{672, 672}, api.ErrState, 3, []int{1152, 2048}}, {[]int{672, 736, 672}, api.ErrState, 3, []int{1152, 2048}}, {[]int{1280, 736, 736}, api.ErrState, 3, []int{1152, 2048}}, {[]int{640, 640}, api.ErrState, 3, []int{1152, 2048}}, {[]int{1408, 1408}, api.ErrState, 0, steps(1424, 1648, 16)},
		// Both: what is no block is asked of all ahead.
		{[]int{640, 641}, api.ErrRange, 3, []int{1152, 2048}}, {[]int{641, 640}, api.ErrRange, 3, []int{1152, 2048}}, {[]int{672, 672, -1}, api.ErrRange, 3, []int{1152, 2048}}, {[]int{-1, 672, 672}, api.ErrRange, 3, []int{1152, 2048}}, {[]int{-1, -1}, api.ErrRange, 3, []int{1152, 2048}}, {[]int{1280, 1408, 128}, api.ErrRange, 3, []int{1152, 2048}}, {[]int{128, 1280, 1408}, api.ErrRange, 3, []int{1152, 2048}}, {[]int{2048, 1920, 2560}, api.ErrRange, 3, []int{1152, 2048}},
	} {
		s := start(t)
		if e := s.p.Give(c.at...); e != c.e {
			t.Errorf("P9.1, P0.2: Give(%v): %v, not %v", c.at, e, c.e)
		}
		if got := s.p.List(c.order); !slices.Equal(got, c.list) {
			t.Errorf("P9.1, P0.3: Give(%v): List(%d) is %v, not %v", c.at, c.order, got, c.list)
		}
		s.m.give(c.at)
		s.same(t, "Give", c.at)
		// What goes on behind a refused call is as if it hadn't been.
		s.take(t, 0, 1, 2, 3, 3, 3)
		s.same(t, "Give", c.at, "Take")
	}
}

// TestGiveInAllOrders gives the blocks of two spans back, in each order there is: a span goes with its last one.
func TestGiveInAllOrders(t *testing.T) {
	for code := range 256 {
		at := []int{128 * (code & 3), 128 * (code >> 2 & 3), 128 * (code >> 4 & 3), 128 * (code >> 6 & 3)}
		s := made(t, 8)
		s.take(t, 3, 3, 3, 3)
		for _, x := range at {
			s.give(t, x)
			s.same(t, "Give", at, x)
		}
		one := made(t, 8)
		one.take(t, 3, 3, 3, 3)
		one.give(t, at...)
		one.same(t, "Give at once", at)
	}
}

// TestLastGivenIsTakenNext gives blocks back, and takes them again.
func TestLastGivenIsTakenNext(t *testing.T) {
	for together := range 2 {
		s := made(t, 8)
		s.take(t, slices.Repeat([]int{1}, 8)...)
		given := []int{96, 0, 224, 32, 160}
		if together == 1 {
			s.give(t, given...)
		} else {
			for _, at := range given {
				s.give(t, at)
			}
		}
		for _, want := range slices.Backward(given) {
			if at, e := s.p.Take(1); at != want || e != api.OK {
				t.Fatalf("P9.1: Take = %d, %v, not %d, that was given last", at, e, want)
			}
			s.m.take(1)
			s.same(t, "Take", want)
		}
		s.take(t, 1)
		s.same(t, "Take of one more")
	}
}

// TestSpanThatWent asks blocks of a span that was freed, and lets another one stand in its pages.
func TestSpanThatWent(t *testing.T) {
	s := start(t)
	s.give(t, 1408)
	for _, at := range []int{1408, 1424, 1648} {
		if e := s.p.Give(at); e != api.ErrRange {
			t.Errorf("P9.1: Give(%d), of a span that went: %v", at, e)
		}
		if order := s.p.Order(at); order != -1 {
			t.Errorf("P9.1: Order(%d), of a span that went: %d", at, order)
		}
	}
	// The heap's tightest run are the pages of the span that went.
	s.take(t, 3, 3, 3)
	if got, want := s.p.Spans(3), []api.Span{span(6, 18, 3), span(11, 22, 3), span(10, 30, 3)}; !slices.Equal(got, want) {
		t.Errorf("P9.1: in pages of a span that went: %v, not %v", got, want)
	}
	if order, list := s.p.Order(1408), s.p.List(3); order != 3 || !slices.Equal(list, []int{1536}) {
		t.Errorf("P9.1: in pages of a span that went: Order %d, List %v", order, list)
	}
	s.same(t, "a span in pages of another one")
}

// TestHoldTable holds a pool, or not, gives blocks back, and tells what spans of the order 3 are left.
func TestHoldTable(t *testing.T) {
	for _, c := range []struct {
		on    []bool
		give  []int
		last  bool
		was   bool
		spans []int
	}{
		{nil, []int{1280}, true, false, []int{10}}, {nil, []int{1280}, false, false, []int{10}}, {nil, []int{1280, 1920}, false, false, nil}, {nil, nil, true, false, []int{6, 10}}, {nil, nil, false, false, []int{6, 10}},
		{[]bool{true}, nil, true, true, []int{6, 10}}, {[]bool{true}, []int{1280}, true, true, []int{6, 10}}, {[]bool{true}, []int{1280, 1920}, true, true, []int{6, 10}}, {[]bool{true, true}, []int{1280, 1920}, true, true, []int{6, 10}}, {[]bool{false, true}, []int{1280, 1920}, true, true, []int{6, 10}},
		{[]bool{true}, nil, false, true, []int{6, 10}}, {[]bool{true}, []int{1280}, false, true, []int{10}}, {[]bool{true}, []int{1920}, false, true, []int{6}}, {[]bool{true}, []int{1280, 1920}, false, true, nil}, {[]bool{true, true}, []int{1280, 1920}, false, true, nil},
		{[]bool{true, false}, []int{1280}, true, false, []int{10}}, {[]bool{true, false}, []int{1280, 1920}, false, false, nil}, {[]bool{true, true, false}, []int{1920}, true, false, []int{6}}, {[]bool{false, false}, []int{1920}, false, false, []int{6}},
	} {
		s := start(t)
		for _, on := range c.on {
			s.hold(t, on)
		}
		s.same(t, "Hold", c.on)
		s.give(t, c.give...)
		s.same(t, "Hold", c.on, "Give", c.give)
		if was := s.p.Hold(c.last); was != c.was {
			t.Errorf("P9.1: Hold of %v, then %v: it was %v, not %v", c.on, c.last, was, c.was)
		}
		s.m.hold(c.last)
		s.same(t, "Hold", c.on, "Give", c.give, "Hold", c.last)
		var ids []int
		for _, x := range s.p.Spans(3) {
			ids = append(ids, x.ID)
		}
		if !slices.Equal(ids, c.spans) {
			t.Errorf("P9.3: Hold of %v, Give of %v, Hold of %v: the spans are %v, not %v", c.on, c.give, c.last, ids, c.spans)
		}
	}
}

// TestHeld lets a pool be held while all blocks are given back: no span goes, and their blocks are taken again.
func TestHeld(t *testing.T) {
	s := start(t)
	s.hold(t, true)
	all := s.h.Spans()
	for _, at := range s.p.Out() {
		s.give(t, at)
		s.same(t, "held", at)
		if got := s.h.Spans(); !slices.Equal(got, all) {
			t.Fatalf("P9.3: held: Give(%d) leaves the spans %v, of %v", at, got, all)
		}
	}
	// Spans of another order, all of whose blocks are in lists, make no room.
	s.take(t, 3, 3, 3, 3, 3, 3)
	if at, e := s.p.Take(3); e != api.ErrMemory || at != 0 {
		t.Errorf("P9.1: held, without room: Take = %d, %v", at, e)
	}
	s.same(t, "held, without room")
	s.take(t, 0)
	s.hold(t, false)
	s.same(t, "held no more")
	if got := len(s.h.Spans()); got != 2+3+1 || len(s.p.Spans(1)) != 0 || len(s.p.Spans(2)) != 0 {
		t.Errorf("P9.3: held no more: %d spans are left", got)
	}
	s.take(t, 3)
	s.give(t, s.p.Out()...)
	s.same(t, "held no more, all given")
	if got := len(s.h.Spans()); got != 2 {
		t.Errorf("P9.3: held no more, all given: %d spans are left", got)
	}
}

// TestHeldSpansMade lets a pool be held while it makes spans, and refuses calls: they are freed with the others.
func TestHeldSpansMade(t *testing.T) {
	s := made(t, 12)
	s.hold(t, true)
	s.take(t, 0, 2, 3)
	s.give(t, 256, 0, 512)
	for _, at := range []int{0, 256, 512, 1, 768} {
		s.give(t, at)
	}
	s.same(t, "held")
	if len(s.p.Out()) != 0 || len(s.h.Spans()) != 3 {
		t.Errorf("P9.3: held: out %v, spans %v", s.p.Out(), s.h.Spans())
	}
	s.take(t, 2)
	s.hold(t, false)
	s.same(t, "held no more")
	s.give(t, 256)
	s.same(t, "all given")
	if got := s.h.Runs(); !slices.Equal(got, []api.Run{{Start: 0, Len: 12}}) {
		t.Errorf("P9.3: all given: the free runs are %v", got)
	}
}

func TestOrderTable(t *testing.T) {
	s := start(t)
	for _, c := range []struct{ at, want int }{
		{1408, 0}, {672, 1}, {864, 1}, {896, 1}, {384, 2}, {1664, 2}, {1856, 2}, {1280, 3}, {1920, 3},
		// In a list.
		{1424, -1}, {1648, -1}, {640, -1}, {704, -1}, {928, -1}, {448, -1}, {1728, -1}, {1152, -1}, {2048, -1},
		// No block's.
		{0, -1}, {1, -1}, {128, -1}, {160, -1}, {383, -1}, {385, -1}, {400, -1}, {416, -1}, {688, -1}, {1344, -1}, {1409, -1}, {2176, -1}, {2559, -1}, {2560, -1}, {-1, -1}, {-384, -1}, {math.MaxInt, -1}, {math.MinInt, -1}, {1<<32 + 384, -1},
	} {
		if got := s.p.Order(c.at); got != c.want {
			t.Errorf("P9.1: Order(%d) = %d, not %d", c.at, got, c.want)
		}
	}
	for at := -200; at < 2800; at++ {
		if got, want := s.p.Order(at), s.m.order(at); got != want {
			t.Errorf("P9.1: Order(%d) = %d, not %d", at, got, want)
		}
	}
	s.same(t, "Order")
}

// TestExample is the chapter's.
func TestExample(t *testing.T) {
	s := made(t, 4)
	one, e := s.p.Take(1)
	two, f := s.p.Take(1)
	if one != 0 || two != 32 || e != api.OK || f != api.OK {
		t.Errorf("P9.1: Take(1) twice: %d, %v, %d, %v", one, e, two, f)
	}
}

// TestWordsOfBlocks writes all words of blocks that are out, and all but the first of those that are in lists: a pool's links aren't there.
func TestWordsOfBlocks(t *testing.T) {
	s := start(t)
	for _, x := range s.m.parts {
		for _, at := range steps(64*x.Start, 64*x.Start+255, sizes()[x.Order]) {
			for i := range sizes()[x.Order] {
				if i > 0 || slices.Contains(x.out, at) {
					s.m.words[at+i] = math.MaxUint64 - uint64(i)
				}
			}
		}
	}
	s.a.Store(0, s.m.words...)
	s.same(t, "other words in blocks")
	s.take(t, 0, 1, 1, 1, 2, 2, 3, 3, 3)
	s.same(t, "Take beside other words")
	s.give(t, 672, 1408, 384, 1280)
	s.same(t, "Give beside other words")
	s.give(t, s.p.Out()...)
	s.same(t, "Give of all beside other words")
}

// TestTwoPools has two pools of one heap and one arena: neither knows the other's blocks.
func TestTwoPools(t *testing.T) {
	s := made(t, 16)
	q := pool.New(s.h, s.a)
	take := func(p *pool.Pool, want int) {
		t.Helper()
		if at, e := p.Take(3); at != want || e != api.OK {
			t.Errorf("P9.1: two pools: Take = %d, %v, not %d", at, e, want)
		}
	}
	take(s.p, 0)
	take(q, 256)
	take(s.p, 128)
	take(q, 384)
	take(q, 512)
	take(s.p, 768)
	if e, f := s.p.Give(256), q.Give(512, 0); e != api.ErrRange || f != api.ErrRange || s.p.Order(256) != -1 || q.Order(0) != -1 {
		t.Errorf("P9.1: two pools: Give of the other's blocks: %v, %v", e, f)
	}
	if q.Hold(true) || s.p.Hold(false) || q.Give(384, 256) != api.OK || s.p.Give(0, 128) != api.OK {
		t.Error("P9.1: two pools, one of them held")
	}
	if !slices.Equal(q.Spans(3), []api.Span{span(2, 4, 3), span(3, 8, 3)}) || !slices.Equal(s.p.Spans(3), []api.Span{span(4, 12, 3)}) || !slices.Equal(q.List(3), []int{256, 384, 640}) || !slices.Equal(s.p.Out(), []int{768}) {
		t.Errorf("P9.1, P9.3: two pools: %v, %v", q.Spans(3), s.p.Spans(3))
	}
}

// TestAllShortRows does all rows of calls, up to a length.
func TestAllShortRows(t *testing.T) {
	const kinds, length = 8, 5
	rows := 1
	for range length {
		rows *= kinds
	}
	for row := range rows {
		s := made(t, 8)
		for x, n := row, length; n > 0; x, n = x/kinds, n-1 {
			switch x % kinds {
			case 0:
				s.take(t, 3)
			case 1:
				s.take(t, 2)
			case 2:
				s.give(t, 0)
			case 3:
				s.give(t, 128)
			case 4:
				s.give(t, 256)
			case 5:
				s.give(t, 0, 256)
			case 6:
				s.hold(t, true)
			default:
				s.hold(t, false)
			}
		}
		s.same(t, "row", row)
	}
}

// some are blocks that are out, and now and then one that isn't, or is told twice.
func (s *stand) some(r *rule) []int {
	out := s.m.outs()
	var l []int
	for range r.below(7) {
		i := r.below(len(out) + 1)
		if i == len(out) {
			continue
		}
		l = append(l, out[i])
		if r.below(20) > 0 {
			out = slices.Delete(out, i, i+1)
		}
	}
	if r.below(8) == 0 {
		l = append(l, 16*r.below(len(s.m.words)/16+1))
	}
	if r.below(40) == 0 {
		l = append(l, r.below(len(s.m.words)))
	}
	return l
}

// TestRowsOfCalls holds long rows of calls against the model; spans that the pool doesn't know come and go beside it.
func TestRowsOfCalls(t *testing.T) {
	for seed := range 16 {
		r := rule(seed)
		s := made(t, 8+7*(seed%6))
		var others []int
		for range 500 {
			switch k := r.below(40); {
			case k < 20-seed%4:
				s.take(t, r.below(4))
			case k < 33:
				s.give(t, s.some(&r)...)
			case k < 35:
				s.hold(t, r.below(2) == 0)
			case k < 37 && len(others) < 3:
				before := s.m.made
				s.other(t, 1+r.below(5), r.below(5)-1)
				if s.m.made > before {
					others = append(others, s.m.made)
				}
			case k < 39 && len(others) > 0:
				i := r.below(len(others))
				s.freeOther(t, others[i])
				others = slices.Delete(others, i, i+1)
			default:
				s.take(t, r.below(6)-1)
			}
			s.same(t, "seed", seed)
		}
		for _, id := range others {
			s.freeOther(t, id)
		}
		s.hold(t, false)
		s.giveAll(t)
	}
}

// TestNil asks a nil pool all.
func TestNil(t *testing.T) {
	var p *pool.Pool
	for _, n := range numbers() {
		want := api.ErrArg
		if n >= 0 && n < 4 {
			want = api.ErrMemory
		}
		if at, e := p.Take(n); at != 0 || e != want {
			t.Errorf("P9.1: nil: Take(%d) = %d, %v, not %v", n, at, e, want)
		}
		if e, f := p.Give(n), p.Give(n, n); e != api.ErrRange || f != api.ErrRange {
			t.Errorf("P9.1: nil: Give(%d): %v, twice %v", n, e, f)
		}
		if len(p.List(n)) != 0 || len(p.Spans(n)) != 0 || p.Order(n) != -1 {
			t.Errorf("P9.1: nil: of %d: List %v, Spans %v, Order %d", n, p.List(n), p.Spans(n), p.Order(n))
		}
	}
	if e, f := p.Give(), p.Give([]int{}...); e != api.OK || f != api.OK || len(p.Out()) != 0 {
		t.Errorf("P9.1: nil: Give of none: %v, %v, Out %v", e, f, p.Out())
	}
	for range 2 {
		if p.Hold(true) || p.Hold(false) {
			t.Error("P9.1: nil: it is held")
		}
	}
}

// TestAllNumbers hands in all numbers: a panic ends the test, and what may not be is refused, and changes nothing.
func TestAllNumbers(t *testing.T) {
	for _, n := range numbers() {
		s := start(t)
		s.take(t, n)
		s.same(t, "Take", n)
		s.give(t, n)
		s.same(t, "Give", n)
		for _, k := range []int{672, 640, -1, n} {
			s.give(t, n, k)
			s.give(t, k, n)
		}
		s.same(t, "Give", n, "and others")
		if want := s.m.order(n); s.p.Order(n) != want {
			t.Errorf("P9.1: Order(%d) = %d, not %d", n, s.p.Order(n), want)
		}
		if (n < 0 || n > 3) && (len(s.p.List(n)) != 0 || len(s.p.Spans(n)) != 0) {
			t.Errorf("P9.1: there is no order %d, but List %v, Spans %v", n, s.p.List(n), s.p.Spans(n))
		}
	}
}

// TestListsAreLeftAndNotKept hands in addresses with room behind them, and writes into them afterwards.
func TestListsAreLeftAndNotKept(t *testing.T) {
	room := []int{672, 896, 1664, 640, 672, -1, 77}
	kept := slices.Clone(room)
	for n := range len(room) + 1 {
		s := start(t)
		e := s.p.Give(room[:n]...)
		if want := s.m.give(kept[:n]); e != want || !slices.Equal(room, kept) {
			t.Fatalf("P0.4: Give of %v: %v, not %v; it is %v then", kept[:n], e, want, room)
		}
		clear(room)
		s.same(t, "writing into the addresses that were handed in")
		copy(room, kept)
	}
}

// TestListsAreNew writes into what is answered, up to the end of its room.
func TestListsAreNew(t *testing.T) {
	s := start(t)
	for order := range 4 {
		elder, list, spans := s.p.List(order), s.p.List(order), s.p.Spans(order)
		want := slices.Clone(elder)
		list, spans = list[:cap(list)], spans[:cap(spans)]
		for i := range list {
			list[i] = 99
		}
		clear(spans)
		if !slices.Equal(elder, want) {
			t.Errorf("P0.4: writing into a list changes another one: %v", elder)
		}
		s.same(t, "writing into what List and Spans answer", order)
		s.take(t, order)
		if !slices.Equal(elder, want) {
			t.Errorf("P0.4: Take changes a list that was answered before: %v", elder)
		}
	}
	elder, out := s.p.Out(), s.p.Out()
	want := slices.Clone(elder)
	out = out[:cap(out)]
	clear(out)
	s.same(t, "writing into what Out answers")
	s.give(t, 672, 1408)
	s.take(t, 3)
	if !slices.Equal(elder, want) {
		t.Errorf("P0.4: calls change what Out answered before: %v", elder)
	}
}

// TestNilIsEmpty hands in nil lists and empty ones, of a pool that is held, and of one that isn't.
func TestNilIsEmpty(t *testing.T) {
	for _, on := range []bool{false, true} {
		s := start(t)
		s.hold(t, on)
		s.give(t, 1408)
		if e, f := s.p.Give(nil...), s.p.Give([]int{}...); e != api.OK || f != api.OK {
			t.Errorf("P0.5: Give of nil: %v, of an empty list: %v", e, f)
		}
		s.same(t, "Give of none", on)
	}
}

// TestSameAnswersAgain does the same row of calls to two pools, one behind the other.
func TestSameAnswersAgain(t *testing.T) {
	do := func() []int {
		s, r := made(t, 36), rule(99)
		var l []int
		for range 500 {
			at, e := s.p.Take(r.below(4))
			l = append(l, at, int(e))
			if out := s.p.Out(); len(out) > 20 {
				l = append(l, int(s.p.Give(out[r.below(len(out))], out[0], out[r.below(len(out))])))
			}
			if s.p.Hold(r.below(3) > 0) {
				l = append(l, 1)
			}
			for order := range 4 {
				l = append(l, s.p.List(order)...)
				for _, x := range s.p.Spans(order) {
					l = append(l, x.ID, x.Start)
				}
			}
		}
		return l
	}
	if !slices.Equal(do(), do()) {
		t.Error("P0.6: the same calls answer otherwise the second time")
	}
}
