package large_test

import (
	"math"
	"slices"
	"testing"

	"shoring/api"
	"shoring/heap"
	"shoring/large"
)

// The signatures are exact: another one doesn't compile here.
var (
	_ func(*heap.Heap) *large.Keeper                 = large.New
	_ func(*large.Keeper, int) (api.Span, api.Errno) = (*large.Keeper).Take
	_ func(*large.Keeper, ...int) api.Errno          = (*large.Keeper).Give
	_ func(*large.Keeper, bool) bool                 = (*large.Keeper).Hold
	_ func(*large.Keeper) int                        = (*large.Keeper).Flush
	_ func(*large.Keeper, int) []int                 = (*large.Keeper).Kept
	_ func(*large.Keeper) []int                      = (*large.Keeper).Waits
)

// rule makes numbers one behind the other, that hang on the one it starts with alone.
type rule uint64

// below is the rule's next number, from 0 to n-1.
func (r *rule) below(n int) int {
	*r = *r*6364136223846793005 + 1442695040888963407
	x := uint64(*r)
	return int((x ^ x>>29) >> 1 % uint64(n))
}

// numbers are those around sizes of large stacks and numbers of spans, around words, and both ends of an int.
func numbers() []int {
	l := []int{math.MinInt, math.MinInt + 1, math.MinInt + 4, -1 << 62, -1 << 32, -1<<32 + 4, -1 << 31, -1024, -16, -8, -5, -4, -3}
	for _, n := range []int{0, 4, 8, 12, 16, 32, 64, 96, 128, 512, 1024, 2048, 65536, 1 << 31, 1 << 32, 1<<32 + 4, 1 << 61, 1 << 62, 3 << 61} {
		for d := -2; d <= 2; d++ {
			l = append(l, n+d)
		}
	}
	return append(l, math.MaxInt-3, math.MaxInt-1, math.MaxInt)
}

// isSize tells whether large stacks have so many pages: all sizes are gone through, till an int doesn't have the next one.
func isSize(pages int) bool {
	for n := 4; n > 0; n *= 2 {
		if n == pages {
			return true
		}
	}
	return false
}

// span is a span of its number, its run, and its order.
func span(id, start, n, order int) api.Span {
	return api.Span{ID: id, Run: api.Run{Start: start, Len: n}, Order: order}
}

// The places where a span may be.
const (
	out = iota
	kept
	waits
)

// entry is a span of the heap: its place, and how many were given ahead of it.
type entry struct {
	api.Span
	place, given int
}

// model is what a keeper and its heap are held against: of each page the number of its span, or 0; and the spans that are there.
type model struct {
	pages       []int
	made, given int
	all         []*entry
	held        bool
}

// runs are the runs of free pages, found from their ends on.
func (m *model) runs() []api.Run {
	var l []api.Run
	for start := range m.pages {
		if m.pages[start] != 0 || start > 0 && m.pages[start-1] == 0 {
			continue
		}
		end := start
		for end < len(m.pages) && m.pages[end] == 0 {
			end++
		}
		l = append(l, api.Run{Start: start, Len: end - start})
	}
	return l
}

// spans are those that are there, as their pages come.
func (m *model) spans() []api.Span {
	var l []api.Span
	for page := range m.pages {
		for _, x := range m.all {
			if x.Start == page {
				l = append(l, x.Span)
			}
		}
	}
	return l
}

// make is what the heap should make; the lengths are gone through, from the tightest one on.
func (m *model) make(n, order int) (api.Span, api.Errno) {
	for want := n; want <= len(m.pages); want++ {
		for _, r := range m.runs() {
			if r.Len != want {
				continue
			}
			m.made++
			for page := r.Start; page < r.Start+n; page++ {
				m.pages[page] = m.made
			}
			s := span(m.made, r.Start, n, order)
			m.all = append(m.all, &entry{Span: s})
			return s, api.OK
		}
	}
	return api.Span{}, api.ErrMemory
}

// free lets the spans of a place go; of these the one with this number, if it isn't 0.
func (m *model) free(place, id int) int {
	var stay []*entry
	for _, x := range m.all {
		if x.place != place || id != 0 && x.ID != id {
			stay = append(stay, x)
			continue
		}
		for page := x.Start; page < x.Start+x.Len; page++ {
			m.pages[page] = 0
		}
	}
	went := len(m.all) - len(stay)
	m.all = stay
	return went
}

// in are the spans of a place that have so many pages (0: however many), as they were given.
func (m *model) in(place, pages int) []*entry {
	var l []*entry
	for _, x := range m.all {
		if x.place == place && (pages == 0 || x.Len == pages) {
			l = append(l, x)
		}
	}
	slices.SortFunc(l, func(x, y *entry) int { return x.given - y.given })
	return l
}

// ids are the numbers of spans.
func ids(l []*entry) []int {
	var n []int
	for _, x := range l {
		n = append(n, x.ID)
	}
	return n
}

// take is what Take should answer.
func (m *model) take(pages int) (api.Span, api.Errno) {
	if !isSize(pages) {
		return api.Span{}, api.ErrArg
	}
	if l := m.in(kept, pages); len(l) > 0 {
		x := l[len(l)-1]
		x.place = out
		return x.Span, api.OK
	}
	return m.make(pages, -1)
}

// find is the span that has this number.
func (m *model) find(id int) *entry {
	for _, x := range m.all {
		if x.ID == id {
			return x
		}
	}
	return nil
}

// give is what Give should answer.
func (m *model) give(l []int) api.Errno {
	e := api.OK
	for i, id := range l {
		x := m.find(id)
		if x == nil || x.Order != -1 || !isSize(x.Len) || slices.Contains(l[:i], id) {
			return api.ErrNone
		}
		if x.place != out {
			e = api.ErrState
		}
	}
	if e != api.OK {
		return e
	}
	for _, id := range l {
		x := m.find(id)
		m.given++
		x.given = m.given
		if m.held {
			x.place = waits
		} else if len(m.in(kept, x.Len)) < 2 {
			x.place = kept
		} else {
			m.free(out, id)
		}
	}
	return api.OK
}

// hold is what Hold should answer.
func (m *model) hold(on bool) bool {
	was := m.held
	m.held = on
	if !on {
		m.free(waits, 0)
	}
	return was
}

// stand is a keeper with its heap, and the model of both.
type stand struct {
	h *heap.Heap
	k *large.Keeper
	m *model
}

// made is a stand of so many pages, none of which is a span's.
func made(t *testing.T, pages int) *stand {
	t.Helper()
	h, e := heap.New(pages)
	k := large.New(h)
	if e != api.OK || k == nil {
		t.Fatalf("P10.1: New of %d pages: %v, %v", pages, k, e)
	}
	return &stand{h, k, &model{pages: make([]int, pages)}}
}

// take takes large stacks of these sizes, and holds what is answered.
func (s *stand) take(t *testing.T, sizes ...int) {
	t.Helper()
	for _, pages := range sizes {
		want, e := s.m.take(pages)
		if got, ge := s.k.Take(pages); got != want || ge != e {
			t.Fatalf("P10.1: Take(%d) = %v, %v, not %v, %v", pages, got, ge, want, e)
		}
	}
}

// give gives spans back, and holds what is answered.
func (s *stand) give(t *testing.T, l ...int) {
	t.Helper()
	before, want := s.m.spans(), s.m.give(l)
	if got := s.k.Give(l...); got != want {
		t.Fatalf("P10.1: of %v: Give(%v): %v, not %v", before, l, got, want)
	}
}

// hold holds the keeper, or not, and holds what is answered.
func (s *stand) hold(t *testing.T, on bool) {
	t.Helper()
	want := s.m.hold(on)
	if got := s.k.Hold(on); got != want {
		t.Fatalf("P10.1: Hold(%v) = %v, not %v", on, got, want)
	}
}

// flush frees what is kept, and holds what is answered.
func (s *stand) flush(t *testing.T) {
	t.Helper()
	want := s.m.free(kept, 0)
	if got := s.k.Flush(); got != want {
		t.Fatalf("P10.1: Flush = %d, not %d", got, want)
	}
}

// other makes a span of the heap, of which the keeper isn't told.
func (s *stand) other(t *testing.T, pages, order int) {
	t.Helper()
	want, e := s.m.make(pages, order)
	if got, ge := s.h.Make(pages, order); got != want || ge != e {
		t.Fatalf("P10.1: beside a keeper: Make(%d, %d) = %v, %v, not %v, %v", pages, order, got, ge, want, e)
	}
}

// freeOther frees a span that is out, without the keeper.
func (s *stand) freeOther(t *testing.T, id int) {
	t.Helper()
	s.m.free(out, id)
	if e := s.h.Free(id); e != api.OK {
		t.Fatalf("P10.1: beside a keeper: Free(%d): %v", id, e)
	}
}

// same asks a keeper and its heap all they tell: they must be the model's.
func (s *stand) same(t *testing.T, what ...any) {
	t.Helper()
	for pages := -5; pages <= len(s.m.pages)+1; pages++ {
		var want []int
		if pages > 0 {
			want = ids(s.m.in(kept, pages))
		}
		if got := s.k.Kept(pages); !slices.Equal(got, want) {
			t.Fatalf("P10.1, P0.3: %v: Kept(%d) = %v, not %v", what, pages, got, want)
		}
		if got := s.k.Kept(pages); len(got) > 2 {
			t.Fatalf("P10.1: %v: of %d pages %v are kept", what, pages, got)
		}
	}
	if got, want := s.k.Waits(), ids(s.m.in(waits, 0)); !slices.Equal(got, want) {
		t.Fatalf("P10.1, P0.3: %v: Waits = %v, not %v", what, got, want)
	}
	if got := s.k.Waits(); len(got) > 0 && !s.m.held {
		t.Fatalf("P10.2: %v: it isn't held, but %v wait", what, got)
	}
	if got, want := s.h.Spans(), s.m.spans(); !slices.Equal(got, want) {
		t.Fatalf("P10.1, P10.2, P0.3: %v: the spans are %v, not %v", what, got, want)
	}
	if got, want := s.h.Runs(), s.m.runs(); !slices.Equal(got, want) {
		t.Fatalf("P10.1, P10.2, P0.3: %v: the free runs are %v, not %v", what, got, want)
	}
}

// start is the stand that the tables begin with, of 96 pages, the last 21 of which are free. Kept are 5 and 4, of 4 pages, and 9, of 8. Out are 6, 7, of 4 pages, 8, 10, of 8, and 11, of 4, of which the keeper wasn't told. No large stacks are 1 (of 2 pages), 3 (of 5), 13 (of 12); 2 and 12 (of the orders 1 and 0).
func start(t *testing.T) *stand {
	t.Helper()
	s := made(t, 96)
	s.other(t, 2, -1)
	s.other(t, 4, 1)
	s.other(t, 5, -1)
	s.take(t, 4, 4, 4, 4, 8, 8, 8)
	s.other(t, 4, -1)
	s.other(t, 8, 0)
	s.other(t, 12, -1)
	s.give(t, 5, 9)
	s.give(t, 4)
	s.same(t, "start")
	return s
}

// TestStart tells what the tables begin with.
func TestStart(t *testing.T) {
	s := start(t)
	if four, eight := s.k.Kept(4), s.k.Kept(8); !slices.Equal(four, []int{5, 4}) || !slices.Equal(eight, []int{9}) || len(s.k.Waits()) != 0 {
		t.Errorf("P10.1: kept are %v and %v, %v wait", four, eight, s.k.Waits())
	}
	want := []api.Span{span(1, 0, 2, -1), span(2, 2, 4, 1), span(3, 6, 5, -1), span(4, 11, 4, -1), span(5, 15, 4, -1), span(6, 19, 4, -1), span(7, 23, 4, -1), span(8, 27, 8, -1), span(9, 35, 8, -1), span(10, 43, 8, -1), span(11, 51, 4, -1), span(12, 55, 8, 0), span(13, 63, 12, -1)}
	if got := s.h.Spans(); !slices.Equal(got, want) {
		t.Errorf("P10.1: the spans are %v, not %v", got, want)
	}
}

func TestNewTable(t *testing.T) {
	if k := large.New(nil); k != nil {
		t.Errorf("P10.1: New of a nil heap: %v", k)
	}
	for _, pages := range []int{4, 5, 8, 64, 1023, 1024} {
		s := made(t, pages)
		s.same(t, "New", pages)
		if s.k.Hold(false) || s.k.Flush() != 0 {
			t.Errorf("P10.1: New of %d pages: it is held, or keeps spans", pages)
		}
	}
}

// TestNewOfHeapWithSpans makes a keeper of a heap that has large stacks: it keeps none of them, but they may be given to it.
func TestNewOfHeapWithSpans(t *testing.T) {
	s := made(t, 32)
	for range 3 {
		s.other(t, 4, -1)
	}
	s.k = large.New(s.h)
	s.same(t, "New of a heap with spans")
	s.take(t, 4)
	s.flush(t)
	s.same(t, "New of a heap with spans, Take")
	s.give(t, 3, 2, 1)
	s.same(t, "New of a heap with spans, Give")
	s.take(t, 4)
	s.same(t, "New of a heap with spans, Take again")
}

func TestTakeTable(t *testing.T) {
	for _, c := range []struct {
		pages int
		want  api.Span
		e     api.Errno
	}{
		// One that is kept: the one that was given last.
		{4, span(4, 11, 4, -1), api.OK}, {8, span(9, 35, 8, -1), api.OK},
		// Another one.
		{16, span(14, 75, 16, -1), api.OK},
		// No room, though there would be, without what is kept.
		{32, api.Span{}, api.ErrMemory}, {64, api.Span{}, api.ErrMemory}, {128, api.Span{}, api.ErrMemory}, {512, api.Span{}, api.ErrMemory}, {1024, api.Span{}, api.ErrMemory}, {2048, api.Span{}, api.ErrMemory}, {1 << 32, api.Span{}, api.ErrMemory}, {1 << 62, api.Span{}, api.ErrMemory},
		// Powers of two that are too small.
		{1, api.Span{}, api.ErrArg}, {2, api.Span{}, api.ErrArg},
		// No powers of two, some of which spans of the heap have.
		{3, api.Span{}, api.ErrArg}, {5, api.Span{}, api.ErrArg}, {6, api.Span{}, api.ErrArg}, {7, api.Span{}, api.ErrArg}, {9, api.Span{}, api.ErrArg}, {12, api.Span{}, api.ErrArg}, {15, api.Span{}, api.ErrArg}, {17, api.Span{}, api.ErrArg}, {20, api.Span{}, api.ErrArg}, {24, api.Span{}, api.ErrArg}, {96, api.Span{}, api.ErrArg}, {100, api.Span{}, api.ErrArg}, {1<<32 + 4, api.Span{}, api.ErrArg}, {3 << 61, api.Span{}, api.ErrArg}, {math.MaxInt, api.Span{}, api.ErrArg},
		// None, and below.
		{0, api.Span{}, api.ErrArg}, {-1, api.Span{}, api.ErrArg}, {-4, api.Span{}, api.ErrArg}, {-8, api.Span{}, api.ErrArg}, {-1 << 62, api.Span{}, api.ErrArg}, {math.MinInt, api.Span{}, api.ErrArg},
	} {
		for _, on := range []bool{false, true} {
			s := start(t)
			s.hold(t, on)
			if got, e := s.k.Take(c.pages); got != c.want || e != c.e {
				t.Errorf("P10.1, P0.2: held %v: Take(%d) = %v, %v, not %v, %v", on, c.pages, got, e, c.want, c.e)
			}
			s.m.take(c.pages)
			s.same(t, "Take", c.pages, on)
		}
	}
}

// TestTakeRows takes large stacks one behind the other: those that are kept, then others.
func TestTakeRows(t *testing.T) {
	for _, c := range []struct{ sizes, ids []int }{
		{[]int{4, 4, 4, 4}, []int{4, 5, 14, 15}}, {[]int{8, 8, 8}, []int{9, 14, 15}}, {[]int{4, 8, 4, 8, 4}, []int{4, 9, 5, 14, 15}}, {[]int{8, 4, 16, 4, 4}, []int{9, 4, 14, 5, 15}}, {[]int{16, 4, 4, 8}, []int{14, 4, 5, 9}},
	} {
		s := start(t)
		var got []int
		for _, pages := range c.sizes {
			x, e := s.k.Take(pages)
			if e != api.OK || x.Len != pages || x.Order != api.Large {
				t.Errorf("P10.1: Take(%d) of %v: %v, %v", pages, c.sizes, x, e)
			}
			s.m.take(pages)
			s.same(t, "Take", c.sizes, x)
			got = append(got, x.ID)
		}
		if !slices.Equal(got, c.ids) {
			t.Errorf("P10.1: Take of %v: %v, not %v", c.sizes, got, c.ids)
		}
	}
}

func TestGiveTable(t *testing.T) {
	for _, c := range []struct {
		ids          []int
		e            api.Errno
		eight, waits []int
		gone         []int
	}{
		{nil, api.OK, []int{9}, nil, nil}, {[]int{}, api.OK, []int{9}, nil, nil},
		// Of 4 pages two are kept already, of 8 one.
		{[]int{6}, api.OK, []int{9}, []int{6}, []int{6}}, {[]int{11}, api.OK, []int{9}, []int{11}, []int{11}}, {[]int{8}, api.OK, []int{9, 8}, []int{8}, nil}, {[]int{10}, api.OK, []int{9, 10}, []int{10}, nil},
		// The first one is kept, not the second one.
		{[]int{8, 10}, api.OK, []int{9, 8}, []int{8, 10}, []int{10}}, {[]int{10, 8}, api.OK, []int{9, 10}, []int{10, 8}, []int{8}}, {[]int{11, 10, 6, 8, 7}, api.OK, []int{9, 10}, []int{11, 10, 6, 8, 7}, []int{11, 6, 8, 7}},
		// No large stacks: other orders, and other sizes.
		{[]int{2}, api.ErrNone, []int{9}, nil, nil}, {[]int{12}, api.ErrNone, []int{9}, nil, nil}, {[]int{1}, api.ErrNone, []int{9}, nil, nil}, {[]int{3}, api.ErrNone, []int{9}, nil, nil}, {[]int{13}, api.ErrNone, []int{9}, nil, nil},
		// No spans.
		{[]int{0}, api.ErrNone, []int{9}, nil, nil}, {[]int{-1}, api.ErrNone, []int{9}, nil, nil}, {[]int{-6}, api.ErrNone, []int{9}, nil, nil}, {[]int{14}, api.ErrNone, []int{9}, nil, nil}, {[]int{1<<32 + 6}, api.ErrNone, []int{9}, nil, nil}, {[]int{math.MaxInt}, api.ErrNone, []int{9}, nil, nil}, {[]int{math.MinInt}, api.ErrNone, []int{9}, nil, nil},
		// One that is named twice.
		{[]int{6, 6}, api.ErrNone, []int{9}, nil, nil}, {[]int{8, 10, 8}, api.ErrNone, []int{9}, nil, nil}, {[]int{6, 8, 10, 10}, api.ErrNone, []int{9}, nil, nil},
		// One that is kept.
		{[]int{5}, api.ErrState, []int{9}, nil, nil}, {[]int{4}, api.ErrState, []int{9}, nil, nil}, {[]int{9}, api.ErrState, []int{9}, nil, nil}, {[]int{8, 9}, api.ErrState, []int{9}, nil, nil}, {[]int{9, 8}, api.ErrState, []int{9}, nil, nil}, {[]int{5, 4, 9}, api.ErrState, []int{9}, nil, nil}, {[]int{6, 8, 5, 10}, api.ErrState, []int{9}, nil, nil},
		// Those ahead of what is refused aren't given, those behind it neither.
		{[]int{8, 0}, api.ErrNone, []int{9}, nil, nil}, {[]int{0, 8}, api.ErrNone, []int{9}, nil, nil}, {[]int{6, 8, 10, 2}, api.ErrNone, []int{9}, nil, nil}, {[]int{13, 6, 8}, api.ErrNone, []int{9}, nil, nil},
		// What isn't there is told ahead of what is kept.
		{[]int{5, 0}, api.ErrNone, []int{9}, nil, nil}, {[]int{0, 5}, api.ErrNone, []int{9}, nil, nil}, {[]int{9, 13}, api.ErrNone, []int{9}, nil, nil}, {[]int{9, 9}, api.ErrNone, []int{9}, nil, nil}, {[]int{4, 8, 8}, api.ErrNone, []int{9}, nil, nil}, {[]int{5, 8, 2}, api.ErrNone, []int{9}, nil, nil},
	} {
		s := start(t)
		if e := s.k.Give(c.ids...); e != c.e {
			t.Errorf("P10.1, P0.2: Give(%v): %v, not %v", c.ids, e, c.e)
		}
		s.m.give(c.ids)
		s.same(t, "Give", c.ids)
		if four, eight := s.k.Kept(4), s.k.Kept(8); !slices.Equal(four, []int{5, 4}) || !slices.Equal(eight, c.eight) {
			t.Errorf("P10.1: behind Give(%v) %v and %v are kept, not 5, 4 and %v", c.ids, four, eight, c.eight)
		}
		if got := len(s.h.Spans()); got != 13-len(c.gone) {
			t.Errorf("P10.1: behind Give(%v) %d spans are left", c.ids, got)
		}
		for _, id := range c.gone {
			if x, there := s.h.Span(id); there {
				t.Errorf("P10.1: behind Give(%v) %v is there", c.ids, x)
			}
		}
		s = start(t)
		s.hold(t, true)
		if e := s.k.Give(c.ids...); e != c.e {
			t.Errorf("P10.1, P0.2: held: Give(%v): %v, not %v", c.ids, e, c.e)
		}
		s.m.give(c.ids)
		s.same(t, "held", "Give", c.ids)
		if got := s.k.Waits(); !slices.Equal(got, c.waits) || len(s.h.Spans()) != 13 {
			t.Errorf("P10.1, P10.2: held: behind Give(%v) %v wait, not %v; the spans are %v", c.ids, got, c.waits, s.h.Spans())
		}
	}
}

// TestGiveOfWaiting gives spans, some of which wait already.
func TestGiveOfWaiting(t *testing.T) {
	for _, c := range []struct {
		ids []int
		e   api.Errno
	}{
		{[]int{6}, api.ErrState}, {[]int{10}, api.ErrState}, {[]int{10, 6}, api.ErrState}, {[]int{7, 6}, api.ErrState}, {[]int{6, 7}, api.ErrState}, {[]int{5, 6}, api.ErrState}, {[]int{10, 9, 8}, api.ErrState},
		{[]int{6, 6}, api.ErrNone}, {[]int{6, 0}, api.ErrNone}, {[]int{0, 6}, api.ErrNone}, {[]int{10, 12}, api.ErrNone}, {[]int{6, 7, 7}, api.ErrNone},
		{[]int{7}, api.OK}, {[]int{8, 7, 11}, api.OK}, {nil, api.OK},
	} {
		s := start(t)
		s.hold(t, true)
		s.give(t, 10, 6)
		if e := s.k.Give(c.ids...); e != c.e {
			t.Errorf("P10.1, P0.2: Give(%v) while 10, 6 wait: %v, not %v", c.ids, e, c.e)
		}
		s.m.give(c.ids)
		s.same(t, "Give", c.ids)
	}
}

// TestTogetherAsOneByOne gives spans in all orders, together and one by one: it is the same, as all of them may be given.
func TestTogetherAsOneByOne(t *testing.T) {
	all := []int{6, 7, 8, 10, 11}
	for code := range 5 * 5 * 5 * 5 {
		l := []int{all[code%5], all[code/5%5], all[code/25%5], all[code/125]}
		for _, on := range []bool{false, true} {
			s := start(t)
			s.hold(t, on)
			s.give(t, l...)
			s.same(t, "Give at once", l)
			one := start(t)
			one.hold(t, on)
			for _, id := range l {
				one.give(t, id)
				one.same(t, "Give", id, "of", l)
			}
		}
	}
}

// TestLastGivenIsTakenNext gives two of a size, takes them, and gives them again the other way round.
func TestLastGivenIsTakenNext(t *testing.T) {
	for _, pages := range []int{4, 8, 16, 32} {
		s := made(t, 64)
		s.take(t, pages, pages)
		for _, l := range [][]int{{1, 2}, {2, 1}, {1, 2}, {2, 1}} {
			s.give(t, l...)
			if got := s.k.Kept(pages); !slices.Equal(got, l) {
				t.Fatalf("P10.1: behind Give(%v) %v are kept", l, got)
			}
			for _, want := range []int{l[1], l[0]} {
				if x, e := s.k.Take(pages); x.ID != want || e != api.OK {
					t.Fatalf("P10.1: behind Give(%v): Take(%d) = %v, %v, not the span %d", l, pages, x, e, want)
				}
				s.m.take(pages)
				s.same(t, "Take", pages)
			}
		}
	}
}

// TestKeptMakeWay takes one of two that are kept, and gives others: how many are kept is counted anew.
func TestKeptMakeWay(t *testing.T) {
	s := start(t)
	s.take(t, 4)
	s.give(t, 7)
	s.same(t, "one taken, one given")
	if got := s.k.Kept(4); !slices.Equal(got, []int{5, 7}) {
		t.Errorf("P10.1: one taken, one given: %v are kept", got)
	}
	s.take(t, 4, 4)
	s.give(t, 11, 6, 4)
	s.same(t, "two taken, three given")
	if got := s.k.Kept(4); !slices.Equal(got, []int{11, 6}) {
		t.Errorf("P10.1: two taken, three given: %v are kept", got)
	}
	if _, there := s.h.Span(4); there {
		t.Error("P10.1: two taken, three given: the third one is there")
	}
}

// TestHoldTable holds a keeper, or not, gives spans, and tells what is left when it is held, or not, at the end.
func TestHoldTable(t *testing.T) {
	for _, c := range []struct {
		on                 []bool
		give               []int
		last, was          bool
		eight, waits, gone []int
	}{
		{nil, nil, false, false, []int{9}, nil, nil}, {nil, nil, true, false, []int{9}, nil, nil}, {nil, []int{8}, true, false, []int{9, 8}, nil, nil}, {nil, []int{8, 10}, true, false, []int{9, 8}, nil, []int{10}}, {nil, []int{8, 10}, false, false, []int{9, 8}, nil, []int{10}},
		{[]bool{true}, nil, true, true, []int{9}, nil, nil}, {[]bool{true}, []int{8}, true, true, []int{9}, []int{8}, nil}, {[]bool{true}, []int{10, 6, 8}, true, true, []int{9}, []int{10, 6, 8}, nil}, {[]bool{true, true}, []int{6}, true, true, []int{9}, []int{6}, nil}, {[]bool{false, true}, []int{6}, true, true, []int{9}, []int{6}, nil},
		// What waits is freed, not kept, though one more of 8 pages would be.
		{[]bool{true}, nil, false, true, []int{9}, nil, nil}, {[]bool{true}, []int{8}, false, true, []int{9}, nil, []int{8}}, {[]bool{true}, []int{10, 6, 8}, false, true, []int{9}, nil, []int{6, 8, 10}}, {[]bool{true, true}, []int{11}, false, true, []int{9}, nil, []int{11}}, {[]bool{false, true}, []int{7, 6, 11}, false, true, []int{9}, nil, []int{6, 7, 11}},
		{[]bool{true, false}, []int{8}, true, false, []int{9, 8}, nil, nil}, {[]bool{true, false}, []int{8, 10}, false, false, []int{9, 8}, nil, []int{10}}, {[]bool{true, true, false}, []int{6}, true, false, []int{9}, nil, []int{6}},
	} {
		s := start(t)
		for _, on := range c.on {
			s.hold(t, on)
		}
		s.same(t, "Hold", c.on)
		s.give(t, c.give...)
		if was := s.k.Hold(c.last); was != c.was {
			t.Errorf("P10.1: Hold of %v, then %v: it was %v, not %v", c.on, c.last, was, c.was)
		}
		s.m.hold(c.last)
		s.same(t, "Hold", c.on, "Give", c.give, "Hold", c.last)
		if four, eight, l := s.k.Kept(4), s.k.Kept(8), s.k.Waits(); !slices.Equal(four, []int{5, 4}) || !slices.Equal(eight, c.eight) || !slices.Equal(l, c.waits) {
			t.Errorf("P10.1, P10.2: Hold of %v, Give of %v, Hold of %v: %v, %v are kept, %v wait", c.on, c.give, c.last, four, eight, l)
		}
		for id := 1; id <= 13; id++ {
			if _, there := s.h.Span(id); there == slices.Contains(c.gone, id) {
				t.Errorf("P10.2: Hold of %v, Give of %v, Hold of %v: the span %d: %v", c.on, c.give, c.last, id, there)
			}
		}
	}
}

// TestHeld lets a keeper be held while spans are taken and given: what is kept is taken, what waits isn't, and none is freed but by Flush.
func TestHeld(t *testing.T) {
	s := start(t)
	s.hold(t, true)
	s.give(t, 8)
	s.take(t, 8)
	s.same(t, "held, taken from what is kept")
	s.take(t, 8)
	s.same(t, "held, nothing kept")
	if got := s.k.Waits(); !slices.Equal(got, []int{8}) || len(s.k.Kept(8)) != 0 || len(s.h.Spans()) != 14 {
		t.Errorf("P10.2: held: %v wait, %v are kept", got, s.k.Kept(8))
	}
	s.give(t, 14, 9, 7, 6, 10, 11)
	s.take(t, 4)
	s.give(t, 4)
	s.same(t, "held, all given")
	if got := s.k.Waits(); !slices.Equal(got, []int{8, 14, 9, 7, 6, 10, 11, 4}) {
		t.Errorf("P10.2: held: %v wait", got)
	}
	s.take(t, 32)
	s.flush(t)
	s.same(t, "held, flushed")
	if got := s.k.Waits(); !slices.Equal(got, []int{8, 14, 9, 7, 6, 10, 11, 4}) || len(s.h.Spans()) != 13 {
		t.Errorf("P10.2: held, flushed: %v wait, the spans are %v", got, s.h.Spans())
	}
	s.hold(t, false)
	s.same(t, "held no more")
	if got := s.h.Spans(); len(got) != 5 || len(s.k.Waits()) != 0 {
		t.Errorf("P10.2: held no more: the spans are %v", got)
	}
	s.take(t, 32)
	s.same(t, "held no more, taken")
}

// TestHeldMore gives more of one size than are kept, while it is held: how many wait isn't bounded.
func TestHeldMore(t *testing.T) {
	s := made(t, 1024)
	s.take(t, slices.Repeat([]int{4}, 256)...)
	s.hold(t, true)
	var l []int
	for id := 256; id > 0; id-- {
		l = append(l, id)
	}
	s.give(t, l[:100]...)
	for _, id := range l[100:] {
		s.give(t, id)
	}
	if got := s.k.Waits(); !slices.Equal(got, l) {
		t.Errorf("P10.2: %v wait", got)
	}
	if x, e := s.k.Take(4); e != api.ErrMemory || x != (api.Span{}) {
		t.Errorf("P10.1: Take while all wait: %v, %v", x, e)
	}
	s.same(t, "all wait")
	s.hold(t, false)
	s.same(t, "none waits")
	if got := s.h.Runs(); !slices.Equal(got, []api.Run{{Start: 0, Len: 1024}}) {
		t.Errorf("P10.2: held no more: the free runs are %v", got)
	}
}

// TestFlushTable flushes a keeper that keeps spans, is held, or neither.
func TestFlushTable(t *testing.T) {
	for _, c := range []struct {
		take, give  []int
		on          bool
		went, spans int
	}{
		{nil, nil, false, 3, 10}, {nil, nil, true, 3, 10}, {[]int{4}, nil, false, 2, 11}, {[]int{4, 4}, nil, true, 1, 12}, {[]int{8}, nil, false, 2, 11}, {[]int{4, 8, 4}, nil, false, 0, 13},
		{nil, []int{8}, false, 4, 9}, {nil, []int{8, 10, 6}, false, 4, 7}, {nil, []int{8}, true, 3, 10}, {nil, []int{8, 10, 6}, true, 3, 10}, {[]int{16}, []int{14}, false, 4, 10}, {[]int{16, 8}, []int{14, 9, 8}, false, 5, 9},
	} {
		s := start(t)
		s.hold(t, c.on)
		s.take(t, c.take...)
		s.give(t, c.give...)
		if went := s.k.Flush(); went != c.went {
			t.Errorf("P10.1: held %v, Take of %v, Give of %v: Flush = %d, not %d", c.on, c.take, c.give, went, c.went)
		}
		s.m.free(kept, 0)
		s.same(t, "Flush", c.take, c.give, c.on)
		if got := len(s.h.Spans()); got != c.spans {
			t.Errorf("P10.1: held %v, Take of %v, Give of %v: Flush leaves %d spans, not %d", c.on, c.take, c.give, got, c.spans)
		}
		if again := s.k.Flush(); again != 0 {
			t.Errorf("P10.1: Flush once more: %d", again)
		}
		s.same(t, "Flush twice")
		if s.k.Hold(c.on) != c.on {
			t.Errorf("P10.1: Flush changes whether it is held: %v", c.on)
		}
		s.take(t, 4, 8)
		s.same(t, "Take behind Flush")
	}
}

// TestStacksThatWent gives spans that were freed by the keeper: they aren't there.
func TestStacksThatWent(t *testing.T) {
	s := start(t)
	s.give(t, 6)
	s.flush(t)
	s.hold(t, true)
	s.give(t, 7)
	s.hold(t, false)
	for _, id := range []int{4, 5, 6, 7, 9} {
		if e := s.k.Give(id); e != api.ErrNone {
			t.Errorf("P10.1: Give(%d), of a span that went: %v", id, e)
		}
	}
	s.same(t, "Give of spans that went")
	// No number is used again, though pages are.
	s.take(t, 4, 4, 4)
	s.same(t, "Take of pages of spans that went")
}

// TestAllSizes keeps two of each size, of a heap that has room for them, and a third one of none.
func TestAllSizes(t *testing.T) {
	s := made(t, 1024)
	id := 0
	for pages := 4; pages <= 256; pages *= 2 {
		s.take(t, pages, pages)
		id += 2
		s.give(t, id-1, id)
		if got := s.k.Kept(pages); !slices.Equal(got, []int{id - 1, id}) {
			t.Errorf("P10.1: Kept(%d) = %v", pages, got)
		}
	}
	s.same(t, "two of each size")
	s.take(t, 4, 4, 4)
	s.give(t, 1, 2, 15)
	s.same(t, "a third one")
	if went := s.k.Flush(); went != 14 || !slices.Equal(s.h.Runs(), []api.Run{{Start: 0, Len: 1024}}) {
		t.Errorf("P10.1: Flush of two of each size: %d, free %v", went, s.h.Runs())
	}
	one := made(t, 1024)
	one.take(t, 1024)
	one.give(t, 1)
	one.same(t, "one of all pages")
	if x, e := one.k.Take(4); e != api.ErrMemory || x != (api.Span{}) {
		t.Errorf("P10.1: Take(4) while all pages are kept: %v, %v", x, e)
	}
	one.take(t, 1024, 1024)
	one.same(t, "one of all pages, taken")
}

// TestExample is the chapter's.
func TestExample(t *testing.T) {
	h, _ := heap.New(16)
	k := large.New(h)
	for range 3 {
		k.Take(4)
	}
	if e := k.Give(1, 2, 3); e != api.OK || !slices.Equal(k.Kept(4), []int{1, 2}) || !slices.Equal(h.Runs(), []api.Run{{Start: 8, Len: 8}}) {
		t.Errorf("P10.1: three given: %v, %v are kept, free %v", e, k.Kept(4), h.Runs())
	}
}

// TestTwoKeepers has two keepers of one heap: each has its own lists, and is held for itself.
func TestTwoKeepers(t *testing.T) {
	s := made(t, 64)
	q := large.New(s.h)
	for want, k := range []*large.Keeper{s.k, q, s.k, q, q, q} {
		if x, e := k.Take(4); x != span(want+1, 4*want, 4, -1) || e != api.OK {
			t.Fatalf("P10.1: two keepers: Take = %v, %v", x, e)
		}
	}
	if q.Hold(true) || s.k.Hold(false) || s.k.Give(1, 2) != api.OK || q.Give(5, 3) != api.OK {
		t.Error("P10.1: two keepers, one of them held")
	}
	if !slices.Equal(s.k.Kept(4), []int{1, 2}) || len(s.k.Waits()) != 0 || len(q.Kept(4)) != 0 || !slices.Equal(q.Waits(), []int{5, 3}) {
		t.Errorf("P10.1: two keepers: %v, %v; %v, %v", s.k.Kept(4), s.k.Waits(), q.Kept(4), q.Waits())
	}
	if !q.Hold(false) || q.Give(4, 6) != api.OK || s.k.Flush() != 2 || !slices.Equal(q.Kept(4), []int{4, 6}) || len(s.h.Spans()) != 2 {
		t.Errorf("P10.1, P10.2: two keepers: %v are kept, of %v", q.Kept(4), s.h.Spans())
	}
}

// TestAllShortRows does all rows of calls, up to a length.
func TestAllShortRows(t *testing.T) {
	const kinds, length = 9, 5
	rows := 1
	for range length {
		rows *= kinds
	}
	for row := range rows {
		s := made(t, 20)
		s.take(t, 4, 4, 4)
		for x, n := row, length; n > 0; x, n = x/kinds, n-1 {
			switch x % kinds {
			case 0:
				s.take(t, 4)
			case 1:
				s.take(t, 8)
			case 2:
				s.give(t, 1)
			case 3:
				s.give(t, 2, 3)
			case 4:
				s.give(t, 3, 1)
			case 5:
				s.give(t, 4)
			case 6:
				s.hold(t, true)
			case 7:
				s.hold(t, false)
			default:
				s.flush(t)
			}
		}
		s.same(t, "row", row)
	}
}

// some are spans that may be given, and now and then one that may not, or is told twice.
func (s *stand) some(r *rule) []int {
	var l []int
	for _, x := range s.m.in(out, 0) {
		if x.Order == -1 && isSize(x.Len) && r.below(3) == 0 {
			l = slices.Insert(l, r.below(len(l)+1), x.ID)
		}
	}
	if r.below(6) == 0 {
		l = slices.Insert(l, r.below(len(l)+1), r.below(s.m.made+2))
	}
	if len(l) > 0 && r.below(20) == 0 {
		l = append(l, l[r.below(len(l))])
	}
	return l
}

// TestRowsOfCalls holds long rows of calls against the model; other spans come and go beside the keeper.
func TestRowsOfCalls(t *testing.T) {
	for seed := range 40 {
		r := rule(seed)
		s := made(t, 16+13*(seed%8))
		for range 300 {
			switch k := r.below(40); {
			case k < 17:
				s.take(t, 4<<(r.below(7)/2))
			case k < 29:
				s.give(t, s.some(&r)...)
			case k < 32:
				s.hold(t, r.below(2) == 0)
			case k < 33:
				s.flush(t)
			case k < 35:
				s.other(t, 1+r.below(9), r.below(5)-1)
			case k < 38:
				if l := s.m.in(out, 0); len(l) > 0 {
					s.freeOther(t, l[r.below(len(l))].ID)
				}
			default:
				s.take(t, r.below(40)-4)
			}
			s.same(t, "seed", seed)
		}
		for _, x := range s.m.in(out, 0) {
			s.freeOther(t, x.ID)
		}
		s.hold(t, false)
		s.flush(t)
		s.same(t, "all goes", seed)
		if got := s.h.Runs(); len(s.h.Spans()) != 0 || !slices.Equal(got, []api.Run{{Start: 0, Len: len(s.m.pages)}}) {
			t.Fatalf("P10.2: all goes: free %v", got)
		}
	}
}

// TestNil asks a nil keeper all.
func TestNil(t *testing.T) {
	var k *large.Keeper
	for _, n := range numbers() {
		want := api.ErrArg
		if isSize(n) {
			want = api.ErrMemory
		}
		if x, e := k.Take(n); x != (api.Span{}) || e != want {
			t.Errorf("P10.1: nil: Take(%d) = %v, %v, not %v", n, x, e, want)
		}
		if e, f := k.Give(n), k.Give(n, n); e != api.ErrNone || f != api.ErrNone {
			t.Errorf("P10.1: nil: Give(%d): %v, twice %v", n, e, f)
		}
		if l := k.Kept(n); len(l) != 0 {
			t.Errorf("P10.1: nil: Kept(%d) = %v", n, l)
		}
	}
	if e, f := k.Give(), k.Give([]int{}...); e != api.OK || f != api.OK || len(k.Waits()) != 0 || k.Flush() != 0 {
		t.Errorf("P10.1: nil: Give of none: %v, %v, %v wait", e, f, k.Waits())
	}
	for range 2 {
		if k.Hold(true) || k.Hold(false) {
			t.Error("P10.1: nil: it is held")
		}
	}
}

// TestAllNumbers hands in all numbers: a panic ends the test, and what may not be is refused, and changes nothing.
func TestAllNumbers(t *testing.T) {
	for _, n := range numbers() {
		for _, on := range []bool{false, true} {
			s := start(t)
			s.hold(t, on)
			for _, k := range []int{8, 6, 5, 2, n} {
				s.give(t, n, k)
				s.give(t, k, n)
			}
			s.give(t, n)
			s.same(t, "Give", n)
			s.take(t, n)
			s.same(t, "Take", n)
			want := ids(s.m.in(kept, n))
			if n == 0 {
				want = nil
			}
			if got := s.k.Kept(n); !slices.Equal(got, want) {
				t.Errorf("P10.1: Kept(%d) = %v, not %v", n, got, want)
			}
		}
	}
}

// TestListsAreLeftAndNotKept hands in numbers with room behind them, and writes into them afterwards.
func TestListsAreLeftAndNotKept(t *testing.T) {
	room := []int{10, 6, 8, 11, 5, 6, -1}
	were := slices.Clone(room)
	for n := range len(room) + 1 {
		for _, on := range []bool{false, true} {
			s := start(t)
			s.hold(t, on)
			e := s.k.Give(room[:n]...)
			if want := s.m.give(were[:n]); e != want || !slices.Equal(room, were) {
				t.Fatalf("P0.4: Give of %v: %v, not %v; it is %v then", were[:n], e, want, room)
			}
			clear(room)
			s.same(t, "writing into the numbers that were handed in")
			copy(room, were)
		}
	}
}

// TestListsAreNew writes into what is answered, up to the end of its room, and asks what was answered before.
func TestListsAreNew(t *testing.T) {
	s := start(t)
	s.hold(t, true)
	s.give(t, 10, 6, 8)
	for _, ask := range []func() []int{func() []int { return s.k.Kept(4) }, func() []int { return s.k.Kept(8) }, s.k.Waits} {
		elder, l := ask(), ask()
		want := slices.Clone(elder)
		l = l[:cap(l)]
		for i := range l {
			l[i] = 99
		}
		if !slices.Equal(elder, want) {
			t.Errorf("P0.4: writing into a list changes another one: %v", elder)
		}
		s.same(t, "writing into what is answered")
	}
	four, eight, waiting := s.k.Kept(4), s.k.Kept(8), s.k.Waits()
	s.take(t, 4, 8)
	s.give(t, 4, 9)
	s.hold(t, false)
	s.give(t, 7, 11)
	s.flush(t)
	if !slices.Equal(four, []int{5, 4}) || !slices.Equal(eight, []int{9}) || !slices.Equal(waiting, []int{10, 6, 8}) {
		t.Errorf("P0.4: calls change what was answered before: %v, %v, %v", four, eight, waiting)
	}
}

// TestNilIsEmpty hands in nil lists and empty ones.
func TestNilIsEmpty(t *testing.T) {
	for _, on := range []bool{false, true} {
		s := start(t)
		s.hold(t, on)
		s.give(t, 8)
		if e, f := s.k.Give(nil...), s.k.Give([]int{}...); e != api.OK || f != api.OK {
			t.Errorf("P0.5: Give of nil: %v, of an empty list: %v", e, f)
		}
		s.same(t, "Give of none", on)
	}
}

// TestSameAnswersAgain does the same row of calls to two keepers, one behind the other.
func TestSameAnswersAgain(t *testing.T) {
	do := func() []int {
		s, r := made(t, 80), rule(99)
		var l []int
		for range 500 {
			x, e := s.k.Take(4 << r.below(3))
			l = append(l, x.ID, x.Start, x.Len, int(e))
			for range r.below(4) {
				l = append(l, int(s.k.Give(1+r.below(x.ID+1))))
			}
			if s.k.Hold(r.below(3) == 0) {
				l = append(l, 1)
			}
			l = append(l, s.k.Waits()...)
			for pages := 4; pages < 64; pages *= 2 {
				l = append(l, s.k.Kept(pages)...)
			}
			if r.below(20) == 0 {
				l = append(l, s.k.Flush())
			}
		}
		return l
	}
	if !slices.Equal(do(), do()) {
		t.Error("P0.6: the same calls answer otherwise the second time")
	}
}
