package heap_test

import (
	"math"
	"slices"
	"testing"

	"shoring/api"
	"shoring/heap"
)

// The signatures are exact: another one doesn't compile here.
var (
	_ func(int) (*heap.Heap, api.Errno)                = heap.New
	_ func(*heap.Heap) int                             = (*heap.Heap).Size
	_ func(*heap.Heap, int, int) (api.Span, api.Errno) = (*heap.Heap).Make
	_ func(*heap.Heap, ...int) api.Errno               = (*heap.Heap).Free
	_ func(*heap.Heap, int) (api.Span, bool)           = (*heap.Heap).Span
	_ func(*heap.Heap, int) (api.Span, bool)           = (*heap.Heap).At
	_ func(*heap.Heap) []api.Span                      = (*heap.Heap).Spans
	_ func(*heap.Heap) []api.Run                       = (*heap.Heap).Runs
)

// rule makes numbers one behind the other, that hang on the one it starts with alone.
type rule uint64

// below is the rule's next number, from 0 to n-1.
func (r *rule) below(n int) int {
	*r = *r*6364136223846793005 + 1442695040888963407
	x := uint64(*r)
	return int((x ^ x>>29) >> 1 % uint64(n))
}

// run is pages in a row.
func run(start, n int) api.Run { return api.Run{Start: start, Len: n} }

// list are runs of their Starts and Lens, one behind the other.
func list(l ...int) []api.Run {
	var rs []api.Run
	for i := 0; i < len(l); i += 2 {
		rs = append(rs, run(l[i], l[i+1]))
	}
	return rs
}

// span is a span of its number, its run, and its order.
func span(id, start, n, order int) api.Span {
	return api.Span{ID: id, Run: run(start, n), Order: order}
}

// numbers are those around few and many pages, around words, and both ends of an int.
func numbers() []int {
	l := []int{math.MinInt, math.MinInt + 1, math.MinInt + 1024, -1 << 32, -1 << 31, -1025, -1024, -1023, -65, -64, -63, -5}
	for _, n := range []int{0, 4, 12, 64, 640, 768, 1024, 65536, 1 << 31, 1 << 32, 1 << 57, 1 << 58, 1 << 62} {
		for d := -2; d <= 2; d++ {
			l = append(l, n+d)
		}
	}
	return append(l, math.MaxInt-1024, math.MaxInt-64, math.MaxInt-1, math.MaxInt)
}

// orders are all that there are.
func orders() []int { return []int{-1, 0, 1, 2, 3} }

// model is what heaps are held against: of each page the number of its span, or 0; and all spans that ever were made.
type model struct {
	pages []int
	made  []api.Span
}

// fresh is the model of a heap all of whose pages are free.
func fresh(pages int) *model { return &model{pages: make([]int, pages)} }

// gathered are the runs of pages that have a number, found from their ends on.
func (m *model) gathered(id int) []api.Run {
	var l []api.Run
	for start := range m.pages {
		if m.pages[start] != id || start > 0 && m.pages[start-1] == id {
			continue
		}
		end := start
		for end < len(m.pages) && m.pages[end] == id {
			end++
		}
		l = append(l, run(start, end-start))
	}
	return l
}

// best is where the pages of a span stand: in the tightest free run, the first one of those. The lengths are gone through, from the tightest one on.
func (m *model) best(n int) (int, bool) {
	free := m.gathered(0)
	for want := n; want <= len(m.pages); want++ {
		for _, r := range free {
			if r.Len == want {
				return r.Start, true
			}
		}
	}
	return 0, false
}

// make is what Make should answer; the pages are changed one by one.
func (m *model) make(n, order int) (api.Span, api.Errno) {
	if n < 1 || !slices.Contains(orders(), order) {
		return api.Span{}, api.ErrArg
	}
	start, fits := m.best(n)
	if !fits {
		return api.Span{}, api.ErrMemory
	}
	s := span(len(m.made)+1, start, n, order)
	m.made = append(m.made, s)
	for page := start; page < start+n; page++ {
		m.pages[page] = s.ID
	}
	return s, api.OK
}

// free is what Free should answer; the pages are changed one by one.
func (m *model) free(ids []int) api.Errno {
	for i, id := range ids {
		if id == 0 || !slices.Contains(m.pages, id) || slices.Contains(ids[:i], id) {
			return api.ErrNone
		}
	}
	for page, id := range m.pages {
		if slices.Contains(ids, id) {
			m.pages[page] = 0
		}
	}
	return api.OK
}

// span is what Span should answer.
func (m *model) span(id int) (api.Span, bool) {
	if id < 1 || !slices.Contains(m.pages, id) {
		return api.Span{}, false
	}
	return m.made[id-1], true
}

// spans are those that are there, as their pages come.
func (m *model) spans() []api.Span {
	var l []api.Span
	for page, id := range m.pages {
		if id != 0 && (page == 0 || m.pages[page-1] != id) {
			l = append(l, m.made[id-1])
		}
	}
	return l
}

// made is a heap of so many pages.
func made(t *testing.T, pages int) *heap.Heap {
	t.Helper()
	h, e := heap.New(pages)
	if e != api.OK || h == nil {
		t.Fatalf("P7.1: New(%d): %v", pages, e)
	}
	return h
}

// hold asks a heap all it tells: it must be the model's.
func hold(t *testing.T, h *heap.Heap, m *model, what ...any) {
	t.Helper()
	if got := h.Size(); got != len(m.pages) {
		t.Fatalf("P7.1: %v: %d pages, not %d", what, got, len(m.pages))
	}
	if got, want := h.Spans(), m.spans(); !slices.Equal(got, want) {
		t.Fatalf("P7.1, P0.3: %v: the spans are %v, not %v", what, got, want)
	}
	if got, want := h.Runs(), m.gathered(0); !slices.Equal(got, want) {
		t.Fatalf("P7.1, P0.3: %v: the free runs are %v, not %v", what, got, want)
	}
	for id := -1; id <= len(m.made)+1; id++ {
		want, there := m.span(id)
		if got, is := h.Span(id); got != want || is != there {
			t.Fatalf("P7.1: %v: Span(%d) = %v, %v, not %v, %v", what, id, got, is, want, there)
		}
	}
	for page, id := range m.pages {
		want, there := m.span(id)
		for _, at := range []int{64 * page, 64*page + 1, 64*page + 63} {
			if got, is := h.At(at); got != want || is != there {
				t.Fatalf("P7.1: %v: At(%d) = %v, %v, not %v, %v", what, at, got, is, want, there)
			}
		}
	}
	whole(t, h, len(m.pages), what...)
}

// whole counts the pages of a heap's spans and free runs, as it tells them itself.
func whole(t *testing.T, h *heap.Heap, pages int, what ...any) {
	t.Helper()
	told := make([]int, pages)
	all := h.Runs()
	for _, s := range h.Spans() {
		all = append(all, s.Run)
	}
	for _, r := range all {
		for page := r.Start; page < r.Start+r.Len; page++ {
			if page < 0 || page >= pages {
				t.Fatalf("P7.2: %v: of %d pages: %v are told", what, pages, r)
			}
			told[page]++
		}
	}
	for page, n := range told {
		if n != 1 {
			t.Fatalf("P7.2: %v: the page %d is told %d times: spans %v, free %v", what, page, n, h.Spans(), h.Runs())
		}
	}
	if len(h.Spans()) == 0 && !slices.Equal(h.Runs(), list(0, pages)) {
		t.Fatalf("P7.3: %v: without spans the free runs are %v", what, h.Runs())
	}
}

// doMake makes a span, and holds what is answered.
func doMake(t *testing.T, h *heap.Heap, m *model, n, order int) {
	t.Helper()
	before := m.spans()
	want, e := m.make(n, order)
	if got, ge := h.Make(n, order); got != want || ge != e {
		t.Fatalf("P7.1: beside %v: Make(%d, %d) = %v, %v, not %v, %v", before, n, order, got, ge, want, e)
	}
}

// doFree frees spans, and holds what is answered.
func doFree(t *testing.T, h *heap.Heap, m *model, ids ...int) {
	t.Helper()
	before := m.spans()
	want := m.free(ids)
	if got := h.Free(ids...); got != want {
		t.Fatalf("P7.1: of %v: Free(%v): %v, not %v", before, ids, got, want)
	}
}

// start is the heap that the tables begin with. Of its 12 pages 0, 1, 4, 7, 8, 9 are free; the spans are 2 (of 2, 3), 4 (of 5, 6), 10 (of 10), 6 (of 11); 1, 3, 5 went, and 7, 8, 9 behind them.
func start(t *testing.T) (*heap.Heap, *model) {
	t.Helper()
	h, m := made(t, 12), fresh(12)
	for _, c := range [][2]int{{2, 0}, {2, 3}, {1, 1}, {2, api.Large}, {4, 2}, {1, 0}} {
		doMake(t, h, m, c[0], c[1])
	}
	doFree(t, h, m, 1, 3, 5)
	// These fill all that is free, so that the last one comes to stand ahead of an elder one.
	doMake(t, h, m, 1, 1)
	doMake(t, h, m, 2, 1)
	doMake(t, h, m, 3, 1)
	doMake(t, h, m, 1, 2)
	doFree(t, h, m, 7, 8, 9)
	hold(t, h, m, "start")
	return h, m
}

// TestStart tells what the tables begin with.
func TestStart(t *testing.T) {
	h, _ := start(t)
	if got, want := h.Spans(), []api.Span{span(2, 2, 2, 3), span(4, 5, 2, -1), span(10, 10, 1, 2), span(6, 11, 1, 0)}; !slices.Equal(got, want) {
		t.Errorf("P7.1: Spans: %v, not %v", got, want)
	}
	if got, want := h.Runs(), list(0, 2, 4, 1, 7, 3); !slices.Equal(got, want) {
		t.Errorf("P7.1: Runs: %v, not %v", got, want)
	}
}

func TestNewTable(t *testing.T) {
	for _, pages := range []int{4, 5, 6, 64, 500, 1022, 1023, 1024} {
		h := made(t, pages)
		hold(t, h, fresh(pages), "New", pages)
		if !slices.Equal(h.Runs(), list(0, pages)) || len(h.Spans()) != 0 {
			t.Errorf("P7.1, P7.3: New(%d): free %v, spans %v", pages, h.Runs(), h.Spans())
		}
		if s, e := h.Make(pages+1, 0); e != api.ErrMemory || s != (api.Span{}) {
			t.Errorf("P7.1: New(%d): Make of one page more: %v, %v", pages, s, e)
		}
		if s, e := h.Make(pages, 0); e != api.OK || s != span(1, 0, pages, 0) {
			t.Errorf("P7.1: New(%d): Make of all pages: %v, %v", pages, s, e)
		}
	}
	for _, pages := range []int{3, 2, 1, 0, -1, -4, -1024, math.MinInt, 1025, 1026, 2048, 65536, 1 << 31, 1<<32 + 8, 1 << 62, math.MaxInt} {
		if h, e := heap.New(pages); h != nil || e != api.ErrArg {
			t.Errorf("P7.1, P0.2: New(%d) = %v, %v", pages, h, e)
		}
	}
}

func TestMakeTable(t *testing.T) {
	for _, c := range []struct {
		pages, order int
		want         api.Span
		e            api.Errno
	}{
		// The tightest run, of each order.
		{1, -1, span(11, 4, 1, -1), api.OK}, {1, 0, span(11, 4, 1, 0), api.OK}, {1, 1, span(11, 4, 1, 1), api.OK}, {1, 2, span(11, 4, 1, 2), api.OK}, {1, 3, span(11, 4, 1, 3), api.OK},
		{2, -1, span(11, 0, 2, -1), api.OK}, {2, 3, span(11, 0, 2, 3), api.OK}, {3, 0, span(11, 7, 3, 0), api.OK}, {3, -1, span(11, 7, 3, -1), api.OK},
		// More than any free run has, though all together have them.
		{4, 0, api.Span{}, api.ErrMemory}, {5, -1, api.Span{}, api.ErrMemory}, {6, 3, api.Span{}, api.ErrMemory}, {12, 0, api.Span{}, api.ErrMemory}, {13, 0, api.Span{}, api.ErrMemory}, {1024, 1, api.Span{}, api.ErrMemory}, {1025, 1, api.Span{}, api.ErrMemory}, {1 << 62, 2, api.Span{}, api.ErrMemory}, {math.MaxInt, -1, api.Span{}, api.ErrMemory},
		// No pages.
		{0, 0, api.Span{}, api.ErrArg}, {-1, 0, api.Span{}, api.ErrArg}, {-12, -1, api.Span{}, api.ErrArg}, {math.MinInt, 3, api.Span{}, api.ErrArg},
		// No such order.
		{1, -2, api.Span{}, api.ErrArg}, {1, 4, api.Span{}, api.ErrArg}, {1, 5, api.Span{}, api.ErrArg}, {1, -3, api.Span{}, api.ErrArg}, {1, 16, api.Span{}, api.ErrArg}, {1, math.MaxInt, api.Span{}, api.ErrArg}, {1, math.MinInt, api.Span{}, api.ErrArg}, {1, 1 << 32, api.Span{}, api.ErrArg}, {1, 1<<32 - 1, api.Span{}, api.ErrArg},
		// What may not be is the first error.
		{13, 4, api.Span{}, api.ErrArg}, {13, -2, api.Span{}, api.ErrArg}, {math.MaxInt, math.MaxInt, api.Span{}, api.ErrArg}, {0, 4, api.Span{}, api.ErrArg}, {0, -2, api.Span{}, api.ErrArg},
	} {
		h, m := start(t)
		if s, e := h.Make(c.pages, c.order); s != c.want || e != c.e {
			t.Errorf("P7.1, P0.2: Make(%d, %d) = %v, %v, not %v, %v", c.pages, c.order, s, e, c.want, c.e)
		}
		m.make(c.pages, c.order)
		hold(t, h, m, "Make", c.pages, c.order)
	}
}

// TestWhichRun asks which free run is taken where several would do: spans of these lengths stand side by side, and each second one goes.
func TestWhichRun(t *testing.T) {
	for _, c := range []struct {
		lens    []int
		n, want int
	}{
		{[]int{5, 1, 2, 1}, 2, 6}, {[]int{5, 1, 2, 1}, 1, 6}, {[]int{5, 1, 2, 1}, 3, 0}, {[]int{5, 1, 2, 1}, 5, 0}, {[]int{2, 1, 5, 1}, 2, 0}, {[]int{2, 1, 5, 1}, 3, 3},
		{[]int{9, 1, 4, 1, 6, 1}, 4, 10}, {[]int{9, 1, 4, 1, 6, 1}, 3, 10}, {[]int{9, 1, 4, 1, 6, 1}, 5, 15}, {[]int{9, 1, 4, 1, 6, 1}, 7, 0},
		// Of runs of the same length the one with the least Start.
		{[]int{3, 1, 3, 1, 3, 1}, 3, 0}, {[]int{3, 1, 3, 1, 3, 1}, 1, 0}, {[]int{5, 1, 3, 1, 3, 1}, 2, 6}, {[]int{5, 1, 3, 1, 3, 1}, 3, 6}, {[]int{1, 1, 3, 1, 3, 1, 9, 1}, 2, 2},
		// The first pages of a run, the last run of the heap, too.
		{[]int{1, 1, 1, 9}, 1, 0}, {[]int{1, 2, 1, 9, 4}, 2, 13}, {[]int{1, 2, 1, 9, 4}, 4, 13},
	} {
		size, goes := 0, []int(nil)
		for i, n := range c.lens {
			size += n
			if i%2 == 0 {
				goes = append(goes, i+1)
			}
		}
		h, m := made(t, size), fresh(size)
		for _, n := range c.lens {
			doMake(t, h, m, n, 0)
		}
		doFree(t, h, m, goes...)
		hold(t, h, m, "which run", c.lens)
		if s, e := h.Make(c.n, 2); e != api.OK || s != span(len(c.lens)+1, c.want, c.n, 2) {
			t.Errorf("P7.1: of %v: Make(%d) = %v, %v, not from %d on", c.lens, c.n, s, e, c.want)
		}
		m.make(c.n, 2)
		hold(t, h, m, "which run", c.lens, c.n)
	}
}

// TestNumbers asks the numbers of spans that were made after others went, and after others were refused.
func TestNumbers(t *testing.T) {
	h, m := made(t, 4), fresh(4)
	for id := 1; id <= 300; id++ {
		s, e := h.Make(1+id%4, id%5-1)
		if e != api.OK || s != span(id, 0, 1+id%4, id%5-1) {
			t.Fatalf("P7.1: Make of the span %d: %v, %v", id, s, e)
		}
		m.make(1+id%4, id%5-1)
		for _, c := range [][2]int{{4, 0}, {0, 0}, {1, 4}, {5, -1}} {
			if x, e := h.Make(c[0], c[1]); e == api.OK || x != (api.Span{}) {
				t.Fatalf("P7.1: Make(%d, %d) beside %v: %v, %v", c[0], c[1], s, x, e)
			}
		}
		hold(t, h, m, "numbers", id)
		doFree(t, h, m, id)
		if _, there := h.Span(id); there {
			t.Fatalf("P7.1: the span %d is there, though it went", id)
		}
		hold(t, h, m, "numbers", id)
	}
	// The last one goes, and others stay: its number isn't used again either.
	for range 3 {
		doMake(t, h, m, 1, 0)
	}
	doFree(t, h, m, 303)
	if s, e := h.Make(1, 0); e != api.OK || s != span(304, 2, 1, 0) {
		t.Errorf("P7.1: Make behind the last span, that went: %v, %v", s, e)
	}
}

func TestFreeTable(t *testing.T) {
	for _, c := range []struct {
		ids  []int
		e    api.Errno
		free []api.Run
	}{
		{nil, api.OK, nil}, {[]int{}, api.OK, nil}, {[]int{2}, api.OK, list(0, 5, 7, 3)}, {[]int{4}, api.OK, list(0, 2, 4, 6)}, {[]int{10}, api.OK, list(0, 2, 4, 1, 7, 4)}, {[]int{6}, api.OK, list(0, 2, 4, 1, 7, 3, 11, 1)},
		{[]int{2, 4}, api.OK, list(0, 10)}, {[]int{4, 2}, api.OK, list(0, 10)}, {[]int{10, 6}, api.OK, list(0, 2, 4, 1, 7, 5)}, {[]int{6, 10}, api.OK, list(0, 2, 4, 1, 7, 5)}, {[]int{6, 2}, api.OK, list(0, 5, 7, 3, 11, 1)},
		{[]int{2, 4, 6, 10}, api.OK, list(0, 12)}, {[]int{10, 6, 4, 2}, api.OK, list(0, 12)}, {[]int{6, 10, 2, 4}, api.OK, list(0, 12)},
		// Numbers that no span has, or had.
		{[]int{0}, api.ErrNone, nil}, {[]int{-1}, api.ErrNone, nil}, {[]int{-2}, api.ErrNone, nil}, {[]int{11}, api.ErrNone, nil}, {[]int{12}, api.ErrNone, nil}, {[]int{math.MaxInt}, api.ErrNone, nil}, {[]int{math.MinInt}, api.ErrNone, nil}, {[]int{1<<32 + 2}, api.ErrNone, nil},
		// Spans that went already.
		{[]int{1}, api.ErrNone, nil}, {[]int{3}, api.ErrNone, nil}, {[]int{5}, api.ErrNone, nil}, {[]int{7}, api.ErrNone, nil}, {[]int{9}, api.ErrNone, nil},
		// One that is named twice.
		{[]int{2, 2}, api.ErrNone, nil}, {[]int{2, 4, 2}, api.ErrNone, nil}, {[]int{4, 2, 2}, api.ErrNone, nil}, {[]int{6, 10, 4, 2, 6}, api.ErrNone, nil}, {[]int{1, 1}, api.ErrNone, nil}, {[]int{0, 0}, api.ErrNone, nil},
		// Those ahead of what is refused stay, those behind it, too.
		{[]int{2, 1}, api.ErrNone, nil}, {[]int{1, 2}, api.ErrNone, nil}, {[]int{2, 4, 6, 10, 0}, api.ErrNone, nil}, {[]int{2, 4, 11, 6}, api.ErrNone, nil}, {[]int{10, 6, 4, 2, 3}, api.ErrNone, nil}, {[]int{2, -1}, api.ErrNone, nil}, {[]int{2, math.MaxInt, 4}, api.ErrNone, nil},
	} {
		h, m := start(t)
		if e := h.Free(c.ids...); e != c.e {
			t.Errorf("P7.1: Free(%v): %v, not %v", c.ids, e, c.e)
		}
		m.free(c.ids)
		if c.free == nil {
			c.free = list(0, 2, 4, 1, 7, 3)
		}
		if got := h.Runs(); !slices.Equal(got, c.free) {
			t.Errorf("P7.1, P0.3: Free(%v): the free runs are %v, not %v", c.ids, got, c.free)
		}
		hold(t, h, m, "Free", c.ids)
		for _, id := range c.ids {
			if _, there := h.Span(id); c.e == api.OK && there {
				t.Errorf("P7.1: Free(%v): the span %d is there", c.ids, id)
			}
		}
		// What goes on behind a refused call is as if it hadn't been.
		doMake(t, h, m, 1, 0)
		hold(t, h, m, "Free", c.ids, "Make")
	}
}

func TestSpanTable(t *testing.T) {
	for _, c := range []struct {
		id   int
		want api.Span
		is   bool
	}{
		{2, span(2, 2, 2, 3), true}, {4, span(4, 5, 2, -1), true}, {6, span(6, 11, 1, 0), true}, {10, span(10, 10, 1, 2), true},
		{1, api.Span{}, false}, {3, api.Span{}, false}, {5, api.Span{}, false}, {7, api.Span{}, false}, {8, api.Span{}, false}, {9, api.Span{}, false}, {0, api.Span{}, false}, {-1, api.Span{}, false}, {-2, api.Span{}, false}, {11, api.Span{}, false},
		{math.MinInt, api.Span{}, false}, {math.MaxInt, api.Span{}, false}, {1<<32 + 2, api.Span{}, false},
	} {
		h, m := start(t)
		if got, is := h.Span(c.id); got != c.want || is != c.is {
			t.Errorf("P7.1, P0.2: Span(%d) = %v, %v, not %v, %v", c.id, got, is, c.want, c.is)
		}
		hold(t, h, m, "Span", c.id)
	}
}

func TestAtTable(t *testing.T) {
	for _, c := range []struct{ at, id int }{
		// The first and the last word of spans, and those beside them.
		{127, 0}, {128, 2}, {129, 2}, {191, 2}, {192, 2}, {255, 2}, {256, 0}, {319, 0}, {320, 4}, {383, 4}, {384, 4}, {447, 4}, {448, 0},
		{639, 0}, {640, 10}, {703, 10}, {704, 6}, {705, 6}, {767, 6}, {768, 0},
		// Free pages, and what is no address of the heap's.
		{0, 0}, {1, 0}, {64, 0}, {300, 0}, {500, 0}, {769, 0}, {832, 0}, {896, 0}, {65535, 0}, {65536, 0}, {1 << 40, 0}, {math.MaxInt, 0}, {math.MaxInt - 63, 0},
		{-1, 0}, {-2, 0}, {-63, 0}, {-64, 0}, {-65, 0}, {-128, 0}, {math.MinInt, 0}, {math.MinInt + 128, 0}, {1<<32 + 128, 0}, {128 - 1<<32, 0},
	} {
		h, m := start(t)
		want, is := m.span(c.id)
		if got, there := h.At(c.at); got != want || there != is {
			t.Errorf("P7.1, P0.2: At(%d) = %v, %v, not %v, %v", c.at, got, there, want, is)
		}
		hold(t, h, m, "At", c.at)
	}
}

// TestAtOfEachAddress asks all addresses of a heap, and those beside it.
func TestAtOfEachAddress(t *testing.T) {
	h, m := start(t)
	for at := -200; at < 1000; at++ {
		want, is := api.Span{}, false
		for _, s := range m.spans() {
			for page := s.Start; page < s.Start+s.Len; page++ {
				if at >= 64*page && at < 64*page+64 {
					want, is = s, true
				}
			}
		}
		if got, there := h.At(at); got != want || there != is {
			t.Errorf("P7.1: At(%d) = %v, %v, not %v, %v", at, got, there, want, is)
		}
	}
}

// TestAtBehindTheLastSpan asks a heap whose last page is a span's, of the least and of the greatest size.
func TestAtBehindTheLastSpan(t *testing.T) {
	for _, pages := range []int{4, 1024} {
		h := made(t, pages)
		h.Make(pages, 1)
		if s, is := h.At(64*pages - 1); !is || s != span(1, 0, pages, 1) {
			t.Errorf("P7.1: of %d pages: At of the last word: %v, %v", pages, s, is)
		}
		for _, at := range []int{64 * pages, 64*pages + 1, 64*pages + 64, 2 * 64 * pages, -1, -64} {
			if s, is := h.At(at); is || s != (api.Span{}) {
				t.Errorf("P7.1: of %d pages: At(%d) = %v, %v", pages, at, s, is)
			}
		}
	}
}

// TestExample is the chapter's.
func TestExample(t *testing.T) {
	h := made(t, 8)
	if s, e := h.Make(3, 0); e != api.OK || s != span(1, 0, 3, 0) {
		t.Errorf("P7.1: Make(3) of 8 pages: %v, %v", s, e)
	}
}

// TestFullAndEmpty fills heaps by spans of each length, asks for more, and lets them go again, in another order.
func TestFullAndEmpty(t *testing.T) {
	for _, pages := range []int{4, 7, 12, 1024} {
		for _, n := range []int{1, 2, 3, 4, 7, 12, pages - 1, pages} {
			h, m := made(t, pages), fresh(pages)
			hold(t, h, m, "empty", pages)
			for range pages / n {
				doMake(t, h, m, n, 1)
			}
			if s, e := h.Make(n, 1); e != api.ErrMemory || s != (api.Span{}) {
				t.Fatalf("P7.1: of %d pages: one span of %d too many: %v, %v", pages, n, s, e)
			}
			for range pages % n {
				doMake(t, h, m, 1, api.Large)
			}
			if len(h.Runs()) != 0 {
				t.Fatalf("P7.1: a heap of %d pages is full, but free are %v", pages, h.Runs())
			}
			if s, e := h.Make(1, 0); e != api.ErrMemory || s != (api.Span{}) {
				t.Fatalf("P7.1: a heap of %d pages is full: Make: %v, %v", pages, s, e)
			}
			hold(t, h, m, "full", pages, n)
			freeAll(t, h, m)
		}
	}
}

// freeAll lets all spans go: each second one ahead of the others, and the last ones at once.
func freeAll(t *testing.T, h *heap.Heap, m *model) {
	t.Helper()
	var rest []int
	for i, s := range m.spans() {
		if i%2 == 0 {
			doFree(t, h, m, s.ID)
		} else {
			rest = append(rest, s.ID)
		}
	}
	whole(t, h, len(m.pages), "half of all")
	slices.Reverse(rest)
	doFree(t, h, m, rest...)
	if len(h.Spans()) != 0 || !slices.Equal(h.Runs(), list(0, len(m.pages))) {
		t.Fatalf("P7.3: all spans of %d pages went: spans %v, free %v", len(m.pages), h.Spans(), h.Runs())
	}
	hold(t, h, m, "all went")
	// All pages are one free run: so a span of them all fits.
	doMake(t, h, m, len(m.pages), 0)
}

// TestAllOrdersOfGoing lets four spans go in each order there is.
func TestAllOrdersOfGoing(t *testing.T) {
	for code := range 256 {
		ids := []int{1 + code&3, 1 + code>>2&3, 1 + code>>4&3, 1 + code>>6&3}
		h, m := made(t, 10), fresh(10)
		for n := 1; n <= 4; n++ {
			doMake(t, h, m, n, n-1)
		}
		for _, id := range ids {
			doFree(t, h, m, id)
			hold(t, h, m, "one by one", ids)
		}
		h, m = made(t, 10), fresh(10)
		for n := 1; n <= 4; n++ {
			doMake(t, h, m, n, n-1)
		}
		doFree(t, h, m, ids...)
		hold(t, h, m, "at once", ids)
	}
}

// TestAllShortRows does all rows of calls, up to a length, to the smallest heap.
func TestAllShortRows(t *testing.T) {
	const kinds, length = 8, 5
	rows := 1
	for range length {
		rows *= kinds
	}
	for row := range rows {
		h, m := made(t, 4), fresh(4)
		for x, n := row, length; n > 0; x, n = x/kinds, n-1 {
			if kind := x % kinds; kind < 4 {
				doMake(t, h, m, kind+1, kind-1)
			} else {
				doFree(t, h, m, kind-3)
			}
		}
		hold(t, h, m, "row", row)
	}
}

// some are numbers of spans that the rule chooses: most of those that are there, some that went, or never were, some twice.
func some(r *rule, m *model) []int {
	var l []int
	spans := m.spans()
	for range r.below(4) {
		if len(spans) > 0 && r.below(8) > 0 {
			l = append(l, spans[r.below(len(spans))].ID)
		} else {
			l = append(l, r.below(len(m.made)+4)-1)
		}
	}
	return l
}

// TestRowsOfCalls holds rows of calls against pages that are changed one by one.
func TestRowsOfCalls(t *testing.T) {
	for seed := range 16 {
		r := rule(seed)
		pages := 4 + seed*3
		h, m := made(t, pages), fresh(pages)
		for range 400 {
			if r.below(2) == 0 {
				doMake(t, h, m, r.below(7)-1, r.below(7)-2)
			} else {
				doFree(t, h, m, some(&r, m)...)
			}
			hold(t, h, m, "seed", seed)
		}
		freeAll(t, h, m)
	}
}

// TestGreatest does a row of calls to the greatest heap.
func TestGreatest(t *testing.T) {
	r := rule(5)
	h, m := made(t, 1024), fresh(1024)
	for i := range 600 {
		if r.below(3) > 0 {
			doMake(t, h, m, 1+r.below(40), r.below(5)-1)
		} else {
			doFree(t, h, m, some(&r, m)...)
		}
		if i%50 == 0 {
			hold(t, h, m, "greatest", i)
		}
	}
	hold(t, h, m, "greatest")
	freeAll(t, h, m)
}

// TestNil asks a nil heap all that a heap is asked: it has no pages.
func TestNil(t *testing.T) {
	var h *heap.Heap
	if h.Size() != 0 || len(h.Spans()) != 0 || len(h.Runs()) != 0 {
		t.Errorf("P7.1: nil: Size %d, Spans %v, Runs %v", h.Size(), h.Spans(), h.Runs())
	}
	if a, b := h.Free(), h.Free([]int{}...); a != api.OK || b != api.OK {
		t.Errorf("P7.1, P0.5: nil: Free of no ids: %v, %v", a, b)
	}
	for _, n := range numbers() {
		if h.Free(n) != api.ErrNone || h.Free(n, n) != api.ErrNone || h.Free(1, n) != api.ErrNone {
			t.Errorf("P7.1: nil: Free(%d): %v", n, h.Free(n))
		}
		if s, is := h.Span(n); is || s != (api.Span{}) {
			t.Errorf("P7.1: nil: Span(%d) = %v, %v", n, s, is)
		}
		if s, is := h.At(n); is || s != (api.Span{}) {
			t.Errorf("P7.1: nil: At(%d) = %v, %v", n, s, is)
		}
		for _, order := range append(numbers(), orders()...) {
			want := api.ErrMemory
			if n < 1 || !slices.Contains(orders(), order) {
				want = api.ErrArg
			}
			if s, e := h.Make(n, order); e != want || s != (api.Span{}) {
				t.Errorf("P7.1: nil: Make(%d, %d) = %v, %v, not %v", n, order, s, e, want)
			}
		}
	}
}

// TestAllNumbers hands in all numbers: a panic ends the test, and what may not be is refused, and changes nothing.
func TestAllNumbers(t *testing.T) {
	for _, n := range numbers() {
		if h, e := heap.New(n); (e == api.OK) != (n >= 4 && n <= 1024) || (h != nil) != (e == api.OK) {
			t.Errorf("P7.1, P0.1: New(%d) = %v, %v", n, h, e)
		}
		h, m := start(t)
		doFree(t, h, m, n)
		doFree(t, h, m, n, n)
		doFree(t, h, m, 6, n)
		h.Span(n)
		h.At(n)
		hold(t, h, m, "Free", n)
		for _, order := range numbers() {
			doMake(t, h, m, n, order)
		}
		hold(t, h, m, "Make", n)
	}
}

// TestAskingChangesNothing asks a heap all that changes nothing.
func TestAskingChangesNothing(t *testing.T) {
	h, m := start(t)
	for _, n := range numbers() {
		h.Size()
		h.Span(n)
		h.At(n)
		h.Spans()
		h.Runs()
	}
	hold(t, h, m, "asking")
}

// TestListsAreLeftAndNotKept hands in numbers with room behind them, and writes into them afterwards.
func TestListsAreLeftAndNotKept(t *testing.T) {
	room := []int{4, 2, 10, 99, 98}
	kept := slices.Clone(room)
	for _, n := range []int{4, 5, 0, 3, 3} {
		h, m := start(t)
		doFree(t, h, m, room[:n]...)
		if !slices.Equal(room, kept) {
			t.Fatalf("P0.4: Free made %v of %v", room, kept)
		}
		clear(room)
		hold(t, h, m, "writing into the numbers that were handed in")
		copy(room, kept)
	}
}

// TestListsAreNew writes into spans and runs that are answered, up to the end of their room.
func TestListsAreNew(t *testing.T) {
	h, m := start(t)
	spans, runs := h.Spans(), h.Runs()
	otherSpans, otherRuns := h.Spans(), h.Runs()
	spans, runs = spans[:cap(spans)], runs[:cap(runs)]
	for i := range spans {
		spans[i] = span(99, 99, 99, 99)
	}
	for i := range runs {
		runs[i] = run(99, 99)
	}
	if !slices.Equal(otherSpans, m.spans()) || !slices.Equal(otherRuns, m.gathered(0)) {
		t.Errorf("P0.4: writing into a list changes another one: %v, %v", otherSpans, otherRuns)
	}
	hold(t, h, m, "writing into the lists that were answered")
	wantSpans, wantRuns := m.spans(), m.gathered(0)
	doMake(t, h, m, 1, 0)
	doMake(t, h, m, 2, 0)
	doFree(t, h, m, 4, 2)
	if !slices.Equal(otherSpans, wantSpans) || !slices.Equal(otherRuns, wantRuns) {
		t.Errorf("P0.4: calls change lists that were answered before: %v, %v", otherSpans, otherRuns)
	}
}

// TestNilIsEmpty frees a nil list and an empty one.
func TestNilIsEmpty(t *testing.T) {
	h, m := start(t)
	if a, b := h.Free(nil...), h.Free([]int{}...); a != api.OK || b != api.OK {
		t.Errorf("P0.5: Free of nil: %v, of an empty list: %v", a, b)
	}
	hold(t, h, m, "Free of none")
}

// TestApart changes one of two heaps.
func TestApart(t *testing.T) {
	a, m := start(t)
	b, n := start(t)
	doMake(t, b, n, 2, 0)
	doFree(t, b, n, 4, 6)
	doMake(t, b, n, 1, 3)
	hold(t, a, m, "calls to another one")
	doMake(t, a, m, 1, 0)
	hold(t, b, n, "calls to another one")
}

// TestSameAnswersAgain does the same row of calls to two heaps, one behind the other.
func TestSameAnswersAgain(t *testing.T) {
	do := func() []int {
		h, r := made(t, 40), rule(99)
		var l []int
		for range 2000 {
			s, e := h.Make(r.below(6), r.below(5)-1)
			l = append(l, s.ID, s.Start, s.Len, s.Order, int(e), int(h.Free(r.below(60)+len(l)/20)))
			for _, s := range h.Spans() {
				l = append(l, s.ID, s.Start)
				if r.below(12) == 0 {
					l = append(l, int(h.Free(s.ID)))
				}
			}
			for _, x := range h.Runs() {
				l = append(l, x.Start, x.Len)
			}
		}
		return l
	}
	if !slices.Equal(do(), do()) {
		t.Error("P0.6: the same calls answer otherwise the second time")
	}
}
