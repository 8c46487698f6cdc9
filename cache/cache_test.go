package cache_test

import (
	"math"
	"slices"
	"testing"

	"shoring/api"
	"shoring/arena"
	"shoring/cache"
	"shoring/heap"
	"shoring/pool"
)

// The signatures are exact: another one doesn't compile here.
var (
	_ func(int, *pool.Pool, *arena.Arena) (*cache.Caches, api.Errno) = cache.New
	_ func(*cache.Caches, int, int) (int, api.Errno)                 = (*cache.Caches).Take
	_ func(*cache.Caches, int, int, ...int) api.Errno                = (*cache.Caches).Give
	_ func(*cache.Caches, ...int) api.Errno                          = (*cache.Caches).Flush
	_ func(*cache.Caches, int, int) []int                            = (*cache.Caches).List
	_ func(*cache.Caches) []int                                      = (*cache.Caches).All
)

// rule makes numbers one behind the other, that hang on the one it starts with alone.
type rule uint64

// next is the rule's next number.
func (r *rule) next() uint64 {
	*r = *r*6364136223846793005 + 1442695040888963407
	x := uint64(*r)
	return x ^ x>>29
}

// below is a number from 0 to n-1.
func (r *rule) below(n int) int { return int(r.next() >> 1 % uint64(n)) }

// numbers are those around orders, processors, blocks and the end of an arena of 48 pages, around words, and both ends of an int.
func numbers() []int {
	l := []int{math.MinInt, math.MinInt + 1, math.MinInt + 736, -1 << 32, -1 << 31, -736, -128, -64, -16, -3}
	for _, n := range []int{0, 4, 16, 32, 64, 128, 736, 1408, 3072, 65536, 1 << 31, 1 << 32, 1<<32 + 736, 1 << 58, 1 << 62} {
		for d := -2; d <= 2; d++ {
			l = append(l, n+d)
		}
	}
	return append(l, math.MaxInt-736, math.MaxInt-64, math.MaxInt-1, math.MaxInt)
}

// sizes are how many words the blocks of each order have.
func sizes() []int { return []int{16, 32, 64, 128} }

// steps are numbers from one on to another, the last one too.
func steps(from, to, by int) []int {
	var l []int
	for x := from; by > 0 && x <= to || by < 0 && x >= to; x += by {
		l = append(l, x)
	}
	return l
}

// model is what caches are held against: the lists as they are told, beside a heap, an arena and a pool of its own, to which everything is done that should be done.
type model struct {
	h     *heap.Heap
	a     *arena.Arena
	p     *pool.Pool
	lists [][4][]int
}

// put lets a list have these blocks; all its links are written anew.
func (m *model) put(proc, order int, l []int) {
	m.lists[proc][order] = l
	for i, at := range l {
		link := uint64(0)
		if i+1 < len(l) {
			link = uint64(l[i+1] + 1)
		}
		m.a.Store(at, link)
	}
}

// is tells whether there is such a list.
func (m *model) is(proc, order int) bool {
	return proc >= 0 && proc < len(m.lists) && order >= 0 && order <= 3
}

// all are the blocks of all lists, rising.
func (m *model) all() []int {
	var l []int
	for _, x := range m.lists {
		l = slices.Concat(l, x[0], x[1], x[2], x[3])
	}
	slices.Sort(l)
	return l
}

// outs are the blocks of an order (below 0: of all) that are out of the pool, and in no list, rising.
func (m *model) outs(order int) []int {
	in := m.all()
	return slices.DeleteFunc(m.p.Out(), func(at int) bool {
		s, _ := m.h.At(at)
		return slices.Contains(in, at) || order >= 0 && s.Order != order
	})
}

// first takes a list's first block.
func (m *model) first(proc, order int) int {
	l := m.lists[proc][order]
	m.a.Store(l[0], 0)
	m.put(proc, order, slices.Clone(l[1:]))
	return l[0]
}

// take is what Take should answer.
func (m *model) take(proc, order int) (int, api.Errno) {
	if !m.is(proc, order) {
		return 0, api.ErrArg
	}
	if len(m.lists[proc][order]) == 0 {
		for range []int{8, 4, 2, 1}[order] {
			at, e := m.p.Take(order)
			if e != api.OK && len(m.lists[proc][order]) == 0 {
				return 0, e
			}
			if e != api.OK {
				break
			}
			m.put(proc, order, slices.Insert(m.lists[proc][order], 0, at))
		}
	}
	return m.first(proc, order), api.OK
}

// give is what Give should answer.
func (m *model) give(proc, order int, at []int) api.Errno {
	if !m.is(proc, order) {
		return api.ErrArg
	}
	out, in := m.p.Out(), m.all()
	e := api.OK
	for i, x := range at {
		if s, there := m.h.At(x); !there || !slices.Contains(out, x) || s.Order != order {
			return api.ErrRange
		}
		if slices.Contains(in, x) || slices.Contains(at[:i], x) {
			e = api.ErrState
		}
	}
	if e != api.OK {
		return e
	}
	for _, x := range at {
		if len(m.lists[proc][order]) == []int{16, 8, 4, 2}[order] {
			m.empty(proc, order, []int{8, 4, 2, 1}[order])
		}
		m.put(proc, order, slices.Insert(m.lists[proc][order], 0, x))
	}
	return api.OK
}

// empty gives a list's first blocks back to the pool, till so many are left.
func (m *model) empty(proc, order, left int) {
	for len(m.lists[proc][order]) > left {
		m.p.Give(m.first(proc, order))
	}
}

// flush is what Flush should answer.
func (m *model) flush(procs []int) api.Errno {
	for _, x := range procs {
		if !m.is(x, 0) {
			return api.ErrArg
		}
	}
	for _, x := range procs {
		for order := range 4 {
			m.empty(x, order, 0)
		}
	}
	return api.OK
}

// stand is caches with their heap, their arena and their pool, and the model of all four.
type stand struct {
	h *heap.Heap
	a *arena.Arena
	p *pool.Pool
	c *cache.Caches
	m *model
}

// parts are a heap, an arena none of whose words is 0 or an address and 1, and a pool of both.
func parts(t *testing.T, pages int) (*heap.Heap, *arena.Arena, *pool.Pool) {
	t.Helper()
	h, e := heap.New(pages)
	a, f := arena.New(pages)
	if e != api.OK || f != api.OK {
		t.Fatalf("a heap and an arena of %d pages: %v, %v", pages, e, f)
	}
	words := make([]uint64, 64*pages)
	r := rule(3)
	for at := range words {
		words[at] = r.next() | 1<<40
	}
	a.Store(0, words...)
	return h, a, pool.New(h, a)
}

// made is a stand of so many pages, none of which is a span's, and so many processors.
func made(t *testing.T, pages, procs int) *stand {
	t.Helper()
	h, a, p := parts(t, pages)
	c, e := cache.New(procs, p, a)
	if c == nil || e != api.OK {
		t.Fatalf("P11.1: New of %d processors: %v, %v", procs, c, e)
	}
	th, ta, tp := parts(t, pages)
	return &stand{h, a, p, c, &model{th, ta, tp, make([][4][]int, procs)}}
}

// take takes a block as often as asked, and holds what is answered.
func (s *stand) take(t *testing.T, proc, order, times int) {
	t.Helper()
	for range times {
		want, e := s.m.take(proc, order)
		if got, ge := s.c.Take(proc, order); got != want || ge != e {
			t.Fatalf("P11.1, P0.2: Take(%d, %d) = %d, %v, not %d, %v", proc, order, got, ge, want, e)
		}
	}
}

// give gives blocks back, and holds what is answered.
func (s *stand) give(t *testing.T, proc, order int, at ...int) {
	t.Helper()
	out, want := s.m.outs(-1), s.m.give(proc, order, at)
	if got := s.c.Give(proc, order, at...); got != want {
		t.Fatalf("P11.1, P0.2: of %v out: Give(%d, %d, %v): %v, not %v", out, proc, order, at, got, want)
	}
}

// flush flushes processors, and holds what is answered.
func (s *stand) flush(t *testing.T, procs ...int) {
	t.Helper()
	want := s.m.flush(procs)
	if got := s.c.Flush(procs...); got != want {
		t.Fatalf("P11.1, P0.2: Flush(%v): %v, not %v", procs, got, want)
	}
}

// hold holds both pools, or not.
func (s *stand) hold(on bool) {
	s.m.p.Hold(on)
	s.p.Hold(on)
}

// other takes a block of the pool, beside the caches; below 0, if there is none.
func (s *stand) other(t *testing.T, order int) int {
	t.Helper()
	want, e := s.m.p.Take(order)
	if got, ge := s.p.Take(order); got != want || ge != e {
		t.Fatalf("P11.1: beside caches: the pool's Take(%d) = %d, %v, not %d, %v", order, got, ge, want, e)
	}
	if e != api.OK {
		return -1
	}
	return want
}

// giveOther gives blocks back to the pool, beside the caches.
func (s *stand) giveOther(t *testing.T, at ...int) {
	t.Helper()
	want := s.m.p.Give(at...)
	if got := s.p.Give(at...); got != want {
		t.Fatalf("P11.1: beside caches: the pool's Give(%v): %v, not %v", at, got, want)
	}
}

// span makes a span that neither the pool nor the caches know.
func (s *stand) span(t *testing.T, pages, order int) api.Span {
	t.Helper()
	want, e := s.m.h.Make(pages, order)
	if got, ge := s.h.Make(pages, order); got != want || ge != e {
		t.Fatalf("P11.1: beside caches: the heap's Make(%d, %d) = %v, %v, not %v, %v", pages, order, got, ge, want, e)
	}
	return want
}

// freeSpan frees such a span.
func (s *stand) freeSpan(id int) {
	s.m.h.Free(id)
	s.h.Free(id)
}

// same asks caches, their pool, their heap and their arena all they tell: they must be the model's.
func (s *stand) same(t *testing.T, what ...any) {
	t.Helper()
	for proc := -2; proc <= len(s.m.lists)+1; proc++ {
		for order := -2; order <= 5; order++ {
			var want []int
			if s.m.is(proc, order) {
				want = s.m.lists[proc][order]
			}
			if got := s.c.List(proc, order); !slices.Equal(got, want) {
				t.Fatalf("P11.1, P0.3: %v: List(%d, %d) = %v, not %v", what, proc, order, got, want)
			}
		}
	}
	if got, want := s.c.All(), s.m.all(); !slices.Equal(got, want) {
		t.Fatalf("P11.1, P0.3: %v: All = %v, not %v", what, got, want)
	}
	for order := range 4 {
		if got, want := s.p.List(order), s.m.p.List(order); !slices.Equal(got, want) {
			t.Fatalf("P11.1, P0.3: %v: the pool's List(%d) = %v, not %v", what, order, got, want)
		}
	}
	if got, want := s.p.Out(), s.m.p.Out(); !slices.Equal(got, want) {
		t.Fatalf("P11.1, P0.3: %v: out of the pool are %v, not %v", what, got, want)
	}
	if got, want := s.h.Spans(), s.m.h.Spans(); !slices.Equal(got, want) {
		t.Fatalf("P11.1, P0.3: %v: the spans are %v, not %v", what, got, want)
	}
	got, _ := s.a.Row(0, s.a.Words())
	want, _ := s.m.a.Row(0, s.m.a.Words())
	for at := range want {
		if got[at] != want[at] {
			t.Fatalf("P11.1, P0.3: %v: the word at %d is %d, not %d", what, at, got[at], want[at])
		}
	}
	s.bounds(t, what...)
}

// bounds counts words and blocks, as caches and their pool tell them themselves.
func (s *stand) bounds(t *testing.T, what ...any) {
	t.Helper()
	told := map[int]bool{}
	for order := range 4 {
		for _, at := range s.p.List(order) {
			told[at] = true
		}
	}
	for proc := range s.m.lists {
		for order, size := range sizes() {
			l := s.c.List(proc, order)
			if len(l)*size > 256 {
				t.Fatalf("P11.2: %v: the list %d, %d has %d blocks of %d words", what, proc, order, len(l), size)
			}
			for _, at := range l {
				if told[at] {
					t.Fatalf("P11.3: %v: the block %d is in the list %d, %d, and in another one", what, at, proc, order)
				}
				told[at] = true
				if s.p.Order(at) != order {
					t.Fatalf("P11.3: %v: the block %d in the list %d, %d is of the order %d in the pool", what, at, proc, order, s.p.Order(at))
				}
			}
		}
	}
}

// start is the stand that the tables begin with, of 48 pages and 3 processors. The spans 1 (of 0, 1) and 2 (of 2 to 5) aren't the pool's; 34 to 47 are free.
//
//	order 0, span 3 (from 384 on): 496 is in use, 384 to 480 are in the list of 0, the others in the pool's
//	order 1, span 4 (from 640 on): 736 is in use, 640 to 704 are in the list of 1, the others in that of 2
//	order 1, span 9 (from 1920 on): 1920 to 2016 are in the list of 2, which is full, the others in the pool's
//	order 2, span 5 (from 896 on): 960 and 1088 are in use, 896 is in the list of 0, 1024 in that of 1
//	order 3, spans 6 to 8 (from 1152 on): 1408, 1536, 1664 are in use, 1152 and 1280 in the list of 2, which is full, 1792 in the pool's
func start(t *testing.T) *stand {
	t.Helper()
	s := made(t, 48, 3)
	s.span(t, 2, api.Large)
	s.span(t, 4, 1)
	s.take(t, 0, 0, 1)
	s.take(t, 1, 1, 1)
	s.take(t, 0, 2, 1)
	s.take(t, 2, 3, 2)
	s.take(t, 0, 3, 2)
	s.take(t, 2, 3, 1)
	s.give(t, 2, 3, 1152, 1280)
	s.take(t, 1, 2, 1)
	s.take(t, 2, 1, 8)
	s.give(t, 2, 1, 864, 832, 800, 768, 2016, 1984, 1952, 1920)
	s.same(t, "start")
	return s
}

// TestStart tells what the tables begin with.
func TestStart(t *testing.T) {
	s := start(t)
	for _, x := range []struct {
		proc, order int
		want        []int
	}{
		{0, 0, []int{480, 464, 448, 432, 416, 400, 384}}, {0, 1, nil}, {0, 2, []int{896}}, {0, 3, nil},
		{1, 0, nil}, {1, 1, []int{704, 672, 640}}, {1, 2, []int{1024}}, {1, 3, nil},
		{2, 0, nil}, {2, 1, []int{1920, 1952, 1984, 2016, 768, 800, 832, 864}}, {2, 2, nil}, {2, 3, []int{1280, 1152}},
	} {
		if got := s.c.List(x.proc, x.order); !slices.Equal(got, x.want) {
			t.Errorf("P11.1: List(%d, %d) = %v, not %v", x.proc, x.order, got, x.want)
		}
	}
	if got, want := s.c.All(), []int{384, 400, 416, 432, 448, 464, 480, 640, 672, 704, 768, 800, 832, 864, 896, 1024, 1152, 1280, 1920, 1952, 1984, 2016}; !slices.Equal(got, want) {
		t.Errorf("P11.1: All = %v, not %v", got, want)
	}
	for order, want := range [][]int{steps(512, 624, 16), {2048, 2080, 2112, 2144}, nil, {1792}} {
		if got := s.p.List(order); !slices.Equal(got, want) {
			t.Errorf("P11.1: the pool's List(%d) = %v, not %v", order, got, want)
		}
	}
	if got, want := s.m.outs(-1), []int{496, 736, 960, 1088, 1408, 1536, 1664}; !slices.Equal(got, want) {
		t.Errorf("P11.1: in use are %v, not %v", got, want)
	}
	if got, want := s.h.Runs(), []api.Run{{Start: 34, Len: 14}}; !slices.Equal(got, want) {
		t.Errorf("P11.1: the free runs are %v, not %v", got, want)
	}
}

func TestNewTable(t *testing.T) {
	_, a, p := parts(t, 8)
	for _, n := range append(numbers(), steps(-20, 20, 1)...) {
		want := api.ErrArg
		if n >= 1 && n <= 16 {
			want = api.OK
		}
		if c, e := cache.New(n, p, a); (c != nil) != (want == api.OK) || e != want {
			t.Errorf("P11.1: New of %d processors: %v, %v, not %v", n, c, e, want)
		}
		for _, x := range []struct {
			p *pool.Pool
			a *arena.Arena
		}{{nil, a}, {p, nil}, {nil, nil}} {
			if c, e := cache.New(n, x.p, x.a); c != nil || e != api.ErrArg {
				t.Errorf("P11.1: New of %d processors, the pool %v, the arena %v: %v, %v", n, x.p, x.a, c, e)
			}
		}
	}
	for procs := 1; procs <= 16; procs++ {
		made(t, 8, procs).same(t, "New", procs)
	}
}

// TestEachProcessor takes blocks of each processor and order there may be, and asks those beyond them.
func TestEachProcessor(t *testing.T) {
	for _, procs := range []int{1, 2, 15, 16} {
		s := made(t, 400, procs)
		for proc := -1; proc <= procs; proc++ {
			for order := -1; order <= 4; order++ {
				s.take(t, proc, order, 2)
			}
		}
		s.same(t, "each processor", procs)
		for proc := -1; proc <= procs; proc++ {
			for order := -1; order <= 4; order++ {
				s.give(t, proc, order, s.m.outs(order)...)
				s.same(t, "each processor", procs, "Give", proc, order)
			}
		}
		for proc := -1; proc <= procs; proc++ {
			s.flush(t, proc)
			s.same(t, "each processor", procs, "Flush", proc)
		}
		if l := s.h.Spans(); len(l) != 0 || len(s.c.All()) != 0 {
			t.Errorf("P11.1: %d processors, all flushed: the spans are %v", procs, l)
		}
	}
}

func TestTakeTable(t *testing.T) {
	for _, c := range []struct {
		proc, order, times, at int
		e                      api.Errno
		list                   []int
	}{
		// A list that has blocks: its first one.
		{0, 0, 1, 480, api.OK, []int{464, 448, 432, 416, 400, 384}}, {0, 0, 7, 384, api.OK, nil}, {0, 2, 1, 896, api.OK, nil}, {1, 1, 1, 704, api.OK, []int{672, 640}}, {1, 1, 3, 640, api.OK, nil}, {1, 2, 1, 1024, api.OK, nil}, {2, 1, 1, 1920, api.OK, []int{1952, 1984, 2016, 768, 800, 832, 864}}, {2, 1, 5, 768, api.OK, []int{800, 832, 864}}, {2, 3, 1, 1280, api.OK, []int{1152}}, {2, 3, 2, 1152, api.OK, nil},
		// One that has none: of the pool, though another processor's list has blocks.
		{1, 0, 1, 624, api.OK, []int{608, 592, 576, 560, 544, 528, 512}}, {2, 0, 8, 512, api.OK, nil}, {0, 1, 1, 2144, api.OK, []int{2112, 2080, 2048}}, {0, 3, 1, 1792, api.OK, nil}, {1, 3, 1, 1792, api.OK, nil},
		// Of another span, for which the heap has room.
		{2, 2, 1, 2240, api.OK, []int{2176}}, {0, 2, 2, 2240, api.OK, []int{2176}}, {1, 3, 2, 2176, api.OK, nil}, {1, 3, 3, 2304, api.OK, nil}, {1, 0, 9, 2288, api.OK, []int{2272, 2256, 2240, 2224, 2208, 2192, 2176}}, {1, 1, 8, 2272, api.OK, []int{2240, 2208, 2176}}, {2, 3, 4, 2176, api.OK, nil}, {2, 1, 13, 2272, api.OK, []int{2240, 2208, 2176}},
		// The heap has no room for one more.
		{1, 3, 8, 0, api.ErrMemory, nil}, {0, 3, 9, 0, api.ErrMemory, nil}, {2, 3, 10, 0, api.ErrMemory, nil}, {2, 2, 13, 0, api.ErrMemory, nil}, {0, 2, 14, 0, api.ErrMemory, nil}, {0, 1, 29, 0, api.ErrMemory, nil}, {1, 0, 57, 0, api.ErrMemory, nil}, {0, 0, 64, 0, api.ErrMemory, nil},
		// No such list.
		{-1, 0, 1, 0, api.ErrArg, nil}, {3, 0, 1, 0, api.ErrArg, nil}, {3, 3, 1, 0, api.ErrArg, nil}, {16, 1, 1, 0, api.ErrArg, nil}, {0, -1, 1, 0, api.ErrArg, nil}, {0, 4, 1, 0, api.ErrArg, nil}, {2, 4, 1, 0, api.ErrArg, nil}, {1, -2, 1, 0, api.ErrArg, nil}, {-1, -1, 1, 0, api.ErrArg, nil}, {3, 4, 1, 0, api.ErrArg, nil}, {math.MinInt, 0, 1, 0, api.ErrArg, nil}, {math.MaxInt, 0, 1, 0, api.ErrArg, nil}, {1 << 32, 1, 1, 0, api.ErrArg, nil}, {0, math.MinInt, 1, 0, api.ErrArg, nil}, {0, math.MaxInt, 1, 0, api.ErrArg, nil}, {0, 1 << 32, 1, 0, api.ErrArg, nil},
	} {
		s := start(t)
		s.take(t, c.proc, c.order, c.times-1)
		if at, e := s.c.Take(c.proc, c.order); at != c.at || e != c.e {
			t.Errorf("P11.1, P0.2: Take(%d, %d), %d times: the last one %d, %v, not %d, %v", c.proc, c.order, c.times, at, e, c.at, c.e)
		}
		s.m.take(c.proc, c.order)
		s.same(t, "Take", c.proc, c.order, c.times)
		if got := s.c.List(c.proc, c.order); !slices.Equal(got, c.list) {
			t.Errorf("P11.1: behind Take(%d, %d), %d times, the list is %v, not %v", c.proc, c.order, c.times, got, c.list)
		}
	}
}

// TestFirstTake takes a block of each order, and tells the list that was filled.
func TestFirstTake(t *testing.T) {
	for order, want := range [][]int{steps(112, 0, -16), steps(96, 0, -32), steps(64, 0, -64), {0}} {
		s := made(t, 8, 1)
		for i, at := range want {
			if got, e := s.c.Take(0, order); got != at || e != api.OK {
				t.Fatalf("P11.1: Take(0, %d) = %d, %v, not %d", order, got, e, at)
			}
			if got := s.c.List(0, order); !slices.Equal(got, want[i+1:]) {
				t.Fatalf("P11.1: behind Take(0, %d) the list is %v, not %v", order, got, want[i+1:])
			}
			if got := len(s.p.Out()); got != 128/sizes()[order] {
				t.Fatalf("P11.1: Take(0, %d): %d blocks are out of the pool", order, got)
			}
			s.m.take(0, order)
			s.same(t, "Take", order, at)
		}
		s.take(t, 0, order, 1)
		if got, want := len(s.p.Out()), 256/sizes()[order]; got != want {
			t.Errorf("P11.1: the list of the order %d is filled once more: %d blocks are out of the pool, not %d", order, got, want)
		}
		s.same(t, "Take of one more", order)
	}
}

// TestFillWithoutRoom lets the pool have room for some blocks of a list alone: the list has these, and the pool's error is answered when there is none.
func TestFillWithoutRoom(t *testing.T) {
	for order, size := range sizes() {
		half := 128 / size
		for left := range 2*half + 1 {
			s := made(t, 4, 2)
			for range 256/size - left {
				s.other(t, order)
			}
			taken := min(left, half)
			for i := range taken {
				s.take(t, 0, order, 1)
				if got := s.c.List(0, order); len(got) != taken-1-i {
					t.Fatalf("P11.1: %d blocks of the order %d are left: behind Take the list is %v", left, order, got)
				}
				s.same(t, "Take", order, left)
			}
			s.take(t, 1, order, 1)
			s.same(t, "Take of another processor", order, left)
			if left > half {
				continue
			}
			for proc := range 2 {
				for range 2 {
					if at, e := s.c.Take(proc, order); at != 0 || e != api.ErrMemory {
						t.Fatalf("P11.1: no block of the order %d is left: Take = %d, %v", order, at, e)
					}
				}
			}
			s.same(t, "Take without room", order, left)
		}
	}
}

// TestNoRoomOfAnotherOrder lets all pages be of one order's: what lists have is of no use for another one, until it is flushed.
func TestNoRoomOfAnotherOrder(t *testing.T) {
	s := made(t, 4, 2)
	s.take(t, 0, 3, 1)
	s.give(t, 0, 3, 0)
	for _, order := range []int{0, 1, 2} {
		if at, e := s.c.Take(1, order); at != 0 || e != api.ErrMemory {
			t.Errorf("P11.1: Take(1, %d) while a list has all: %d, %v", order, at, e)
		}
	}
	s.same(t, "Take of other orders")
	s.flush(t, 0)
	s.take(t, 1, 2, 1)
	s.same(t, "Take behind Flush")
	if at, e := s.c.Take(0, 3); at != 0 || e != api.ErrMemory {
		t.Errorf("P11.1: Take(0, 3) while another order has all: %d, %v", at, e)
	}
}

func TestGiveTable(t *testing.T) {
	for _, c := range []struct {
		proc, order int
		at          []int
		e           api.Errno
		list        []int
	}{
		{0, 0, nil, api.OK, steps(480, 384, -16)}, {2, 3, []int{}, api.OK, []int{1280, 1152}}, {1, 3, nil, api.OK, nil},
		// Put in front, one behind the other, by whatever processor.
		{0, 0, []int{496}, api.OK, steps(496, 384, -16)}, {1, 0, []int{496}, api.OK, []int{496}}, {0, 1, []int{736}, api.OK, []int{736}}, {1, 1, []int{736}, api.OK, []int{736, 704, 672, 640}}, {0, 2, []int{960}, api.OK, []int{960, 896}}, {0, 2, []int{960, 1088}, api.OK, []int{1088, 960, 896}}, {0, 2, []int{1088, 960}, api.OK, []int{960, 1088, 896}}, {2, 2, []int{1088, 960}, api.OK, []int{960, 1088}}, {0, 3, []int{1664, 1408}, api.OK, []int{1408, 1664}},
		// A list that is full is emptied to half ahead of the next one, as often as it is.
		{2, 1, []int{736}, api.OK, []int{736, 768, 800, 832, 864}}, {2, 3, []int{1536}, api.OK, []int{1536, 1152}}, {2, 3, []int{1536, 1408}, api.OK, []int{1408, 1152}}, {2, 3, []int{1408, 1536, 1664}, api.OK, []int{1664, 1152}}, {0, 3, []int{1408, 1536, 1664}, api.OK, []int{1664, 1408}}, {1, 3, []int{1664, 1536, 1408}, api.OK, []int{1408, 1664}},
		// No such list, whatever is given.
		{-1, 0, []int{496}, api.ErrArg, nil}, {3, 0, []int{496}, api.ErrArg, nil}, {3, 0, nil, api.ErrArg, nil}, {0, 4, nil, api.ErrArg, nil}, {0, -1, []int{496}, api.ErrArg, nil}, {0, -1, []int{384}, api.ErrArg, nil}, {0, -1, []int{0}, api.ErrArg, nil}, {1, 4, []int{-1}, api.ErrArg, nil}, {16, 1, []int{736, 736}, api.ErrArg, nil}, {math.MinInt, 0, []int{496}, api.ErrArg, nil}, {math.MaxInt, 3, []int{1408}, api.ErrArg, nil}, {0, math.MinInt, []int{496}, api.ErrArg, nil}, {0, math.MaxInt, []int{496}, api.ErrArg, nil}, {1 << 32, 0, []int{496}, api.ErrArg, nil},
		// No block: beside one, in one, in free pages, in spans that aren't the pool's, and where no page is.
		{0, 0, []int{495}, api.ErrRange, steps(480, 384, -16)}, {0, 0, []int{497}, api.ErrRange, steps(480, 384, -16)}, {1, 1, []int{752}, api.ErrRange, []int{704, 672, 640}}, {0, 3, []int{1472}, api.ErrRange, nil}, {0, 3, []int{2176}, api.ErrRange, nil}, {0, 0, []int{3056}, api.ErrRange, steps(480, 384, -16)}, {0, 1, []int{128}, api.ErrRange, nil}, {0, 1, []int{160}, api.ErrRange, nil}, {0, 0, []int{0}, api.ErrRange, steps(480, 384, -16)}, {0, 0, []int{3072}, api.ErrRange, steps(480, 384, -16)}, {0, 0, []int{-1}, api.ErrRange, steps(480, 384, -16)}, {0, 0, []int{-496}, api.ErrRange, steps(480, 384, -16)}, {0, 0, []int{math.MinInt}, api.ErrRange, steps(480, 384, -16)}, {0, 0, []int{math.MaxInt}, api.ErrRange, steps(480, 384, -16)}, {0, 0, []int{1<<32 + 496}, api.ErrRange, steps(480, 384, -16)},
		// Of another order, in a list of that order too.
		{0, 1, []int{496}, api.ErrRange, nil}, {0, 0, []int{736}, api.ErrRange, steps(480, 384, -16)}, {0, 2, []int{1408}, api.ErrRange, []int{896}}, {0, 3, []int{1088}, api.ErrRange, nil}, {0, 3, []int{896}, api.ErrRange, nil}, {1, 2, []int{1152}, api.ErrRange, []int{1024}}, {0, 2, []int{640}, api.ErrRange, []int{896}},
		// In the pool's list.
		{0, 0, []int{512}, api.ErrRange, steps(480, 384, -16)}, {0, 0, []int{624}, api.ErrRange, steps(480, 384, -16)}, {1, 1, []int{2080}, api.ErrRange, []int{704, 672, 640}}, {2, 3, []int{1792}, api.ErrRange, []int{1280, 1152}},
		// In a list: of this processor, and of another one; the first one, a middle one, the last one.
		{0, 0, []int{480}, api.ErrState, steps(480, 384, -16)}, {0, 0, []int{432}, api.ErrState, steps(480, 384, -16)}, {0, 0, []int{384}, api.ErrState, steps(480, 384, -16)}, {1, 0, []int{480}, api.ErrState, nil}, {2, 0, []int{384}, api.ErrState, nil}, {0, 1, []int{672}, api.ErrState, nil}, {0, 1, []int{1920}, api.ErrState, nil}, {1, 1, []int{864}, api.ErrState, []int{704, 672, 640}}, {0, 2, []int{1024}, api.ErrState, []int{896}}, {1, 2, []int{896}, api.ErrState, []int{1024}}, {2, 3, []int{1280}, api.ErrState, []int{1280, 1152}}, {0, 3, []int{1152}, api.ErrState, nil},
		{0, 2, []int{960, 1024}, api.ErrState, []int{896}}, {0, 2, []int{1024, 960}, api.ErrState, []int{896}}, {2, 3, []int{1408, 1536, 1280}, api.ErrState, []int{1280, 1152}},
		// Named twice.
		{0, 0, []int{496, 496}, api.ErrState, steps(480, 384, -16)}, {2, 1, []int{736, 736}, api.ErrState, []int{1920, 1952, 1984, 2016, 768, 800, 832, 864}}, {0, 2, []int{960, 1088, 960}, api.ErrState, []int{896}}, {2, 3, []int{1664, 1408, 1408, 1536}, api.ErrState, []int{1280, 1152}}, {0, 0, []int{480, 480}, api.ErrState, steps(480, 384, -16)},
		// Both: what is no block is asked of all ahead.
		{0, 0, []int{480, 512}, api.ErrRange, steps(480, 384, -16)}, {0, 0, []int{512, 480}, api.ErrRange, steps(480, 384, -16)}, {0, 2, []int{960, 960, 961}, api.ErrRange, []int{896}}, {0, 2, []int{961, 960, 960}, api.ErrRange, []int{896}}, {0, 2, []int{960, 1408}, api.ErrRange, []int{896}}, {0, 2, []int{-1, -1}, api.ErrRange, []int{896}}, {2, 3, []int{1408, 1536, 1664, 1792}, api.ErrRange, []int{1280, 1152}}, {2, 3, []int{1792, 1408, 1536, 1664}, api.ErrRange, []int{1280, 1152}}, {0, 3, []int{1152, 1408, 128}, api.ErrRange, nil},
	} {
		for _, on := range []bool{false, true} {
			s := start(t)
			s.hold(on)
			if e := s.c.Give(c.proc, c.order, c.at...); e != c.e {
				t.Errorf("P11.1, P0.2: Give(%d, %d, %v): %v, not %v", c.proc, c.order, c.at, e, c.e)
			}
			s.m.give(c.proc, c.order, c.at)
			s.same(t, "Give", c.proc, c.order, c.at, on)
			if got := s.c.List(c.proc, c.order); !slices.Equal(got, c.list) {
				t.Errorf("P11.1, P0.3: behind Give(%d, %d, %v) the list is %v, not %v", c.proc, c.order, c.at, got, c.list)
			}
			// What goes on behind a refused call is as if it hadn't been.
			for proc := range 3 {
				for order := range 4 {
					s.take(t, proc, order, 3)
				}
			}
			s.same(t, "Give", c.proc, c.order, c.at, on, "Take")
		}
	}
}

// TestEmptied gives blocks to a list that is full: its first ones go back to the pool, one behind the other, and a span all of whose blocks are there goes, unless the pool is held.
func TestEmptied(t *testing.T) {
	s := start(t)
	s.give(t, 2, 1, 736)
	if got, want := s.p.List(1), []int(nil); !slices.Equal(got, want) {
		t.Errorf("P11.1: the pool's List(1) = %v, not %v", got, want)
	}
	if got, want := s.h.Runs(), []api.Run{{Start: 30, Len: 18}}; !slices.Equal(got, want) {
		t.Errorf("P11.1: the free runs are %v, not %v", got, want)
	}
	s = start(t)
	s.hold(true)
	s.give(t, 2, 1, 736)
	if got, want := s.p.List(1), []int{2016, 1984, 1952, 1920, 2048, 2080, 2112, 2144}; !slices.Equal(got, want) {
		t.Errorf("P11.1: held: the pool's List(1) = %v, not %v", got, want)
	}
	if got, want := s.h.Runs(), []api.Run{{Start: 34, Len: 14}}; !slices.Equal(got, want) {
		t.Errorf("P11.1: held: the free runs are %v, not %v", got, want)
	}
	s = start(t)
	s.give(t, 2, 3, 1664)
	if got, want := s.p.List(3), []int{1280, 1792}; !slices.Equal(got, want) {
		t.Errorf("P11.1: the pool's List(3) = %v, not %v", got, want)
	}
	s.give(t, 2, 3, 1536, 1408)
	if got, want := s.p.List(3), []int{1280, 1536}; !slices.Equal(got, want) {
		t.Errorf("P11.1: the pool's List(3) = %v, not %v", got, want)
	}
}

// TestFullOfEachOrder gives more blocks than a list has room for: it is emptied when the next one comes, not when it is full.
func TestFullOfEachOrder(t *testing.T) {
	for order, size := range sizes() {
		most := 256 / size
		for _, together := range []bool{false, true} {
			s := made(t, 40, 2)
			s.take(t, 1, order, 3*most)
			l := s.m.outs(order)
			for n := range l {
				if together {
					s = made(t, 40, 2)
					s.take(t, 1, order, 3*most)
					s.give(t, 0, order, l[:n+1]...)
				} else {
					s.give(t, 0, order, l[n])
				}
				want := n + 1
				for want > most {
					want -= most / 2
				}
				got := s.c.List(0, order)
				if len(got) != want || got[0] != l[n] {
					t.Fatalf("P11.1, P11.2: %d blocks of the order %d given: the list is %v, not %d blocks, with %d in front", n+1, order, got, want, l[n])
				}
				s.same(t, "Give", order, n, together)
			}
		}
	}
}

// TestOtherProcessor takes blocks by one processor, and gives them by another one.
func TestOtherProcessor(t *testing.T) {
	s := made(t, 8, 3)
	s.take(t, 0, 1, 4)
	s.give(t, 1, 1, 0, 64)
	s.give(t, 2, 1, 32)
	s.same(t, "Give by others")
	for _, x := range []struct{ proc, at int }{{1, 64}, {2, 32}, {1, 0}, {2, 224}, {1, 352}} {
		if at, e := s.c.Take(x.proc, 1); at != x.at || e != api.OK {
			t.Errorf("P11.1: Take(%d, 1) = %d, %v, not %d", x.proc, at, e, x.at)
		}
		s.m.take(x.proc, 1)
		s.same(t, "Take by others", x.proc)
	}
}

// TestTogetherAsOneByOne gives blocks in all orders, together and one by one: it is the same, as all of them may be given.
func TestTogetherAsOneByOne(t *testing.T) {
	all := []int{1408, 1536, 1664, 1152, 1280}
	for code := range 5 * 5 * 5 * 5 {
		at := []int{all[code%5], all[code/5%5], all[code/25%5], all[code/125]}
		s := start(t)
		s.take(t, 2, 3, 1)
		s.give(t, 2, 3, at...)
		s.same(t, "Give at once", at)
		one := start(t)
		one.take(t, 2, 3, 1)
		for _, x := range at {
			one.give(t, 2, 3, x)
			one.same(t, "Give", x, "of", at)
		}
	}
}

// TestLastGivenIsTakenNext gives blocks back, and takes them again.
func TestLastGivenIsTakenNext(t *testing.T) {
	s := made(t, 8, 1)
	s.take(t, 0, 1, 8)
	given := []int{96, 0, 224, 32, 160}
	s.give(t, 0, 1, given...)
	for _, want := range slices.Backward(given) {
		if at, e := s.c.Take(0, 1); at != want || e != api.OK {
			t.Fatalf("P11.1: Take = %d, %v, not %d, that was given last", at, e, want)
		}
		s.m.take(0, 1)
		s.same(t, "Take", want)
	}
}

func TestFlushTable(t *testing.T) {
	all := []int{384, 400, 416, 432, 448, 464, 480, 640, 672, 704, 768, 800, 832, 864, 896, 1024, 1152, 1280, 1920, 1952, 1984, 2016}
	without := func(gone ...int) []int {
		return slices.DeleteFunc(slices.Clone(all), func(at int) bool { return slices.Contains(gone, at) })
	}
	of := [][]int{append(steps(384, 480, 16), 896), {640, 672, 704, 1024}, {768, 800, 832, 864, 1152, 1280, 1920, 1952, 1984, 2016}}
	for _, c := range []struct {
		procs []int
		e     api.Errno
		left  []int
	}{
		{nil, api.OK, all}, {[]int{}, api.OK, all},
		{[]int{0}, api.OK, without(of[0]...)}, {[]int{1}, api.OK, without(of[1]...)}, {[]int{2}, api.OK, without(of[2]...)},
		{[]int{0, 1}, api.OK, of[2]}, {[]int{1, 0}, api.OK, of[2]}, {[]int{2, 0}, api.OK, of[1]}, {[]int{1, 0, 2}, api.OK, nil}, {[]int{2, 1, 0}, api.OK, nil},
		// Twice is as good as once.
		{[]int{1, 1}, api.OK, without(of[1]...)}, {[]int{0, 1, 0}, api.OK, of[2]},
		// One isn't there: none is flushed.
		{[]int{3}, api.ErrArg, all}, {[]int{-1}, api.ErrArg, all}, {[]int{0, 3}, api.ErrArg, all}, {[]int{3, 0}, api.ErrArg, all}, {[]int{0, 1, 2, 3}, api.ErrArg, all}, {[]int{2, -1, 0}, api.ErrArg, all}, {[]int{16}, api.ErrArg, all}, {[]int{math.MinInt}, api.ErrArg, all}, {[]int{0, math.MaxInt}, api.ErrArg, all}, {[]int{1 << 32}, api.ErrArg, all},
	} {
		for _, on := range []bool{false, true} {
			s := start(t)
			s.hold(on)
			if e := s.c.Flush(c.procs...); e != c.e {
				t.Errorf("P11.1, P0.2: Flush(%v): %v, not %v", c.procs, e, c.e)
			}
			s.m.flush(c.procs)
			s.same(t, "Flush", c.procs, on)
			if got := s.c.All(); !slices.Equal(got, c.left) {
				t.Errorf("P11.1, P0.3: Flush(%v) leaves %v, not %v", c.procs, got, c.left)
			}
			for proc := range 3 {
				for order := range 4 {
					s.take(t, proc, order, 2)
				}
			}
			s.same(t, "Flush", c.procs, on, "Take")
		}
	}
}

// TestFlushOneBehindTheOther tells the pool's list behind a Flush of several processors: it hangs on their order, and on that of the blocks in their lists.
func TestFlushOneBehindTheOther(t *testing.T) {
	for _, c := range []struct{ procs, list []int }{
		{nil, nil}, {[]int{0}, []int{0, 128}}, {[]int{1}, []int{64}}, {[]int{0, 1}, []int{64, 0, 128}}, {[]int{1, 0}, []int{0, 128, 64}}, {[]int{0, 0, 1}, []int{64, 0, 128}}, {[]int{1, 0, 1}, []int{0, 128, 64}},
	} {
		s := made(t, 4, 2)
		s.take(t, 0, 2, 4)
		s.give(t, 0, 2, 0, 128)
		s.give(t, 1, 2, 64)
		s.flush(t, c.procs...)
		s.same(t, "Flush", c.procs)
		if got := s.p.List(2); !slices.Equal(got, c.list) {
			t.Errorf("P11.1: behind Flush(%v) the pool's list is %v, not %v", c.procs, got, c.list)
		}
	}
}

// TestAllFlushed gives all back, and flushes all: all pages are free again, but those of spans that the pool doesn't know.
func TestAllFlushed(t *testing.T) {
	s := start(t)
	for order := range 4 {
		s.give(t, 1, order, s.m.outs(order)...)
	}
	s.same(t, "all given")
	s.flush(t, 2, 0, 1)
	s.same(t, "all flushed")
	if got := s.h.Runs(); len(s.p.Out()) != 0 || !slices.Equal(got, []api.Run{{Start: 6, Len: 42}}) {
		t.Errorf("P11.1: all flushed: the free runs are %v", got)
	}
	s = start(t)
	s.hold(true)
	for order := range 4 {
		s.give(t, 1, order, s.m.outs(order)...)
	}
	s.flush(t, 0, 1, 2)
	s.same(t, "held, all flushed")
	if got := s.h.Runs(); len(s.p.Out()) != 0 || !slices.Equal(got, []api.Run{{Start: 34, Len: 14}}) {
		t.Errorf("P11.1: held, all flushed: the free runs are %v", got)
	}
	s.hold(false)
	s.same(t, "held no more")
}

// TestExample is the chapter's.
func TestExample(t *testing.T) {
	s := made(t, 4, 1)
	at, e := s.c.Take(0, 1)
	if at != 96 || e != api.OK || !slices.Equal(s.c.List(0, 1), []int{64, 32, 0}) || !slices.Equal(s.p.Out(), []int{0, 32, 64, 96}) {
		t.Errorf("P11.1: the first Take of the order 1: %d, %v; the list is %v", at, e, s.c.List(0, 1))
	}
}

// TestWordsOfBlocks writes all words of blocks that are in use, and all but the first of those that are in lists: no links are there.
func TestWordsOfBlocks(t *testing.T) {
	s := start(t)
	outs, in := s.m.outs(-1), s.c.All()
	for order, size := range sizes() {
		for _, at := range slices.Concat(outs, in, s.p.List(order)) {
			if span, _ := s.h.At(at); span.Order != order {
				continue
			}
			for i := range size {
				if i > 0 || slices.Contains(outs, at) {
					s.a.Store(at+i, math.MaxUint64-uint64(i))
					s.m.a.Store(at+i, math.MaxUint64-uint64(i))
				}
			}
		}
	}
	s.same(t, "other words in blocks")
	s.take(t, 0, 0, 9)
	s.take(t, 1, 3, 2)
	s.give(t, 2, 1, 736)
	s.give(t, 0, 3, 1408, 1664, 1536)
	s.same(t, "Take and Give beside other words")
	s.flush(t, 0, 1, 2)
	s.same(t, "Flush beside other words")
}

// TestTwoCaches has two caches of one pool: each has its own lists.
func TestTwoCaches(t *testing.T) {
	s := made(t, 12, 1)
	d, _ := cache.New(2, s.p, s.a)
	for _, x := range []struct {
		c                 *cache.Caches
		proc, order, want int
	}{{s.c, 0, 2, 64}, {d, 0, 2, 192}, {d, 1, 2, 320}, {s.c, 0, 2, 0}, {d, 1, 2, 256}, {d, 0, 3, 512}} {
		if at, e := x.c.Take(x.proc, x.order); at != x.want || e != api.OK {
			t.Fatalf("P11.1: two caches: Take(%d, %d) = %d, %v, not %d", x.proc, x.order, at, e, x.want)
		}
	}
	if d.Give(1, 2, 0, 320) != api.OK || s.c.Give(0, 2, 192) != api.OK || d.Flush(0) != api.OK {
		t.Error("P11.1: two caches: Give, Flush")
	}
	if !slices.Equal(s.c.All(), []int{192}) || !slices.Equal(d.All(), []int{0, 320}) || !slices.Equal(s.p.List(2), []int{128, 384, 448}) {
		t.Errorf("P11.1, P11.3: two caches: %v, %v, in the pool %v", s.c.All(), d.All(), s.p.List(2))
	}
}

// TestAllShortRows does all rows of calls, up to a length.
func TestAllShortRows(t *testing.T) {
	const kinds, length = 9, 4
	rows := 1
	for range length {
		rows *= kinds
	}
	for row := range rows {
		s := made(t, 8, 2)
		s.take(t, 0, 3, 2)
		for x, n := row, length; n > 0; x, n = x/kinds, n-1 {
			switch x % kinds {
			case 0:
				s.take(t, 0, 3, 1)
			case 1:
				s.take(t, 1, 3, 1)
			case 2:
				s.take(t, 1, 2, 1)
			case 3:
				s.give(t, 0, 3, 0)
			case 4:
				s.give(t, 1, 3, 128, 0)
			case 5:
				s.give(t, 1, 3, 256)
			case 6:
				s.give(t, 0, 3, 256, 128, 384)
			case 7:
				s.flush(t, 0)
			default:
				s.flush(t, 1, 0)
			}
		}
		s.same(t, "row", row)
	}
}

// some are blocks of an order that may be given, and now and then one that may not, or is told twice.
func (s *stand) some(r *rule, order int) []int {
	var l []int
	for _, at := range s.m.outs(order) {
		if r.below(3) > 0 {
			l = slices.Insert(l, r.below(len(l)+1), at)
		}
	}
	if r.below(8) == 0 {
		l = slices.Insert(l, r.below(len(l)+1), 16*r.below(s.a.Words()/16+1))
	}
	if r.below(40) == 0 {
		l = append(l, r.below(s.a.Words()))
	}
	if in := s.m.all(); len(in) > 0 && r.below(12) == 0 {
		l = append(l, in[r.below(len(in))])
	}
	if len(l) > 0 && r.below(20) == 0 {
		l = append(l, l[r.below(len(l))])
	}
	return l
}

// beside does something to the pool, or to its heap, that caches aren't told.
func (s *stand) beside(t *testing.T, r *rule, spans []int) []int {
	t.Helper()
	switch r.below(6) {
	case 0:
		s.hold(r.below(2) == 0)
	case 1, 2:
		s.other(t, r.below(4))
	case 3:
		if l := s.m.outs(-1); len(l) > 0 {
			s.giveOther(t, l[r.below(len(l))])
		}
	case 4:
		if x := s.span(t, 1+r.below(5), r.below(5)-1); x.ID > 0 {
			spans = append(spans, x.ID)
		}
	default:
		if len(spans) > 0 {
			i := r.below(len(spans))
			s.freeSpan(spans[i])
			spans = slices.Delete(spans, i, i+1)
		}
	}
	return spans
}

// TestRowsOfCalls holds long rows of calls against the model.
func TestRowsOfCalls(t *testing.T) {
	for seed := range 24 {
		r := rule(seed)
		procs := 1 + seed%4
		s := made(t, 8+9*(seed%6), procs)
		var spans []int
		for range 300 {
			proc, order := r.below(procs), r.below(4)
			switch k := r.below(40); {
			case k < 22:
				s.take(t, proc, order, 1+r.below(4))
			case k < 33:
				s.give(t, proc, order, s.some(&r, order)...)
			case k < 35:
				s.flush(t, slices.Repeat([]int{proc, r.below(procs)}, r.below(2)+1)[r.below(2):]...)
			case k < 38:
				spans = s.beside(t, &r, spans)
			case k < 39:
				s.take(t, r.below(procs+2)-1, r.below(6)-1, 1)
			default:
				s.flush(t, proc, r.below(procs+2)-1)
			}
			s.same(t, "seed", seed)
		}
		for _, id := range spans {
			s.freeSpan(id)
		}
		s.end(t, procs)
	}
}

// end gives all back, some to lists, the others to the pool, and flushes all.
func (s *stand) end(t *testing.T, procs int) {
	t.Helper()
	for order := range 4 {
		l := s.m.outs(order)
		s.give(t, order%procs, order, l[len(l)/2:]...)
		s.giveOther(t, l[:len(l)/2]...)
	}
	s.hold(false)
	for proc := range procs {
		s.flush(t, proc)
	}
	s.same(t, "all goes")
	if got, pages := s.h.Runs(), s.h.Size(); !slices.Equal(got, []api.Run{{Start: 0, Len: pages}}) {
		t.Fatalf("P11.1: all goes: the free runs are %v", got)
	}
}

// TestNil asks nil caches all.
func TestNil(t *testing.T) {
	var c *cache.Caches
	for _, n := range numbers() {
		for _, k := range []int{0, 3, n} {
			at, e := c.Take(k, n)
			if f := c.Give(n, k); at != 0 || e != api.ErrArg || f != api.ErrArg {
				t.Errorf("P11.1: nil: Take(%d, %d) = %d, %v; Give: %v", k, n, at, e, f)
			}
			if e, f := c.Give(k, n, n), c.Give(0, 0, n, k); e != api.ErrArg || f != api.ErrArg {
				t.Errorf("P11.1: nil: Give of %d: %v, %v", n, e, f)
			}
			if e, f := c.Flush(n), c.Flush(n, k); e != api.ErrArg || f != api.ErrArg {
				t.Errorf("P11.1: nil: Flush(%d): %v, %v", n, e, f)
			}
			if l, m := c.List(k, n), c.List(n, k); len(l) != 0 || len(m) != 0 {
				t.Errorf("P11.1: nil: List(%d, %d) = %v, the other way round %v", k, n, l, m)
			}
		}
	}
	if e, f := c.Flush(), c.Flush([]int{}...); e != api.OK || f != api.OK || len(c.All()) != 0 {
		t.Errorf("P11.1: nil: Flush of none: %v, %v, All %v", e, f, c.All())
	}
}

// TestAllNumbers hands in all numbers: a panic ends the test, and what may not be is refused, and changes nothing.
func TestAllNumbers(t *testing.T) {
	for _, n := range numbers() {
		s := start(t)
		s.take(t, n, 0, 1)
		s.take(t, 0, n, 1)
		s.take(t, n, n, 1)
		s.same(t, "Take", n)
		s.give(t, n, 1, 736)
		s.give(t, 1, n, 736)
		s.give(t, n, n, n)
		s.give(t, 1, 1, n)
		s.give(t, 2, 3, 1408, n)
		s.give(t, 2, 3, n, 1536)
		s.same(t, "Give", n)
		s.flush(t, n, 0)
		s.flush(t, 1, n)
		s.flush(t, n)
		s.same(t, "Flush", n)
		if (n < 0 || n > 3) && len(s.c.List(0, n)) != 0 || (n < 0 || n > 2) && len(s.c.List(n, 0)) != 0 {
			t.Errorf("P11.1: there is no list of %d, but %v, %v", n, s.c.List(0, n), s.c.List(n, 0))
		}
	}
}

// TestListsAreLeftAndNotKept hands in blocks and processors with room behind them, and writes into them afterwards.
func TestListsAreLeftAndNotKept(t *testing.T) {
	room := []int{1536, 1408, 1664, 1152, 1536, -1}
	were := slices.Clone(room)
	for n := range len(room) + 1 {
		s := start(t)
		e := s.c.Give(2, 3, room[:n]...)
		if want := s.m.give(2, 3, were[:n]); e != want || !slices.Equal(room, were) {
			t.Fatalf("P0.4: Give of %v: %v, not %v; it is %v then", were[:n], e, want, room)
		}
		clear(room)
		s.same(t, "writing into the blocks that were handed in")
		copy(room, were)
	}
	procs := []int{2, 0, 2, 1, 3}
	for n := range len(procs) + 1 {
		s := start(t)
		e := s.c.Flush(procs[:n]...)
		if want := s.m.flush(procs[:n]); e != want || !slices.Equal(procs, []int{2, 0, 2, 1, 3}) {
			t.Fatalf("P0.4: Flush of %d processors: %v, not %v; they are %v then", n, e, want, procs)
		}
		s.same(t, "Flush of processors with room behind them", n)
	}
}

// TestListsAreNew writes into what is answered, up to the end of its room, and asks what was answered before.
func TestListsAreNew(t *testing.T) {
	s := start(t)
	for _, ask := range []func() []int{s.c.All, func() []int { return s.c.List(0, 0) }, func() []int { return s.c.List(2, 1) }, func() []int { return s.c.List(2, 3) }} {
		elder, l := ask(), ask()
		want := slices.Clone(elder)
		l = l[:cap(l)]
		for i := range l {
			l[i] = 99
		}
		if !slices.Equal(elder, want) {
			t.Errorf("P0.4: writing into a list changes another one: %v", elder)
		}
		s.same(t, "writing into what is answered")
	}
	all, list := s.c.All(), s.c.List(2, 1)
	want, wantList := slices.Clone(all), slices.Clone(list)
	s.take(t, 0, 0, 2)
	s.give(t, 2, 1, 736)
	s.flush(t, 2)
	if !slices.Equal(all, want) || !slices.Equal(list, wantList) {
		t.Errorf("P0.4: calls change what was answered before: %v, %v", all, list)
	}
}

// TestNilIsEmpty hands in nil lists and empty ones: a list that is full stays so.
func TestNilIsEmpty(t *testing.T) {
	s := start(t)
	for _, l := range [][]int{nil, {}} {
		if e, f := s.c.Give(2, 1, l...), s.c.Flush(l...); e != api.OK || f != api.OK {
			t.Errorf("P0.5: Give of none: %v, Flush of none: %v", e, f)
		}
		if e := s.c.Give(3, 1, l...); e != api.ErrArg {
			t.Errorf("P0.5: Give of none to a list that isn't there: %v", e)
		}
		s.same(t, "of none")
	}
}

// TestSameAnswersAgain does the same row of calls to two caches, one behind the other.
func TestSameAnswersAgain(t *testing.T) {
	do := func() []int {
		s, r := made(t, 36, 3), rule(99)
		var l []int
		for range 400 {
			proc, order := r.below(3), r.below(4)
			at, e := s.c.Take(proc, order)
			l = append(l, at, int(e))
			if r.below(2) == 0 {
				l = append(l, int(s.c.Give(r.below(3), order, at)))
			}
			if r.below(15) == 0 {
				l = append(l, int(s.c.Flush(proc)))
			}
			l = append(l, s.c.All()...)
			l = append(l, s.p.List(order)...)
		}
		return l
	}
	if !slices.Equal(do(), do()) {
		t.Error("P0.6: the same calls answer otherwise the second time")
	}
}

// TestLinksWrittenOver writes over the links of lists, as nobody may: nothing is promised but that calls end, without a panic.
func TestLinksWrittenOver(t *testing.T) {
	for _, w := range []uint64{0, 1, 481, 497, 1281, 1921, 1 << 20, 1 << 63, math.MaxUint64} {
		s := start(t)
		for _, at := range s.c.All() {
			s.a.Store(at, w)
		}
		for proc := range 3 {
			for order := range 4 {
				s.c.Take(proc, order)
				s.c.Give(proc, order, s.m.outs(order)...)
				s.c.List(proc, order)
			}
		}
		s.c.All()
		s.c.Flush(0, 1, 2)
	}
}

// TestOtherArena makes caches of an arena that isn't the pool's, as nobody may: nothing is promised but that calls end, without a panic.
func TestOtherArena(t *testing.T) {
	h, _, p := parts(t, 64)
	h.Make(8, api.Large)
	small, _ := arena.New(4)
	c, _ := cache.New(1, p, small)
	for order := range 4 {
		c.Take(0, order)
		c.Give(0, order, p.Out()...)
	}
	c.Flush(0)
	c.All()
}
