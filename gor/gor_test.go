package gor_test

import (
	"math"
	"slices"
	"testing"

	"shoring/api"
	"shoring/fns"
	"shoring/gor"
	"shoring/model"
	"shoring/stacks"
)

// The signatures are exact: another one doesn't compile here.
var (
	_ func(*stacks.Stacks, *fns.Table, int, int, int) (*gor.Gor, api.Errno) = gor.New
	_ func(*gor.Gor, int, int) api.Errno                                    = (*gor.Gor).Call
	_ func(*gor.Gor) api.Errno                                              = (*gor.Gor).Return
	_ func(*gor.Gor, int, int, api.Val) api.Errno                           = (*gor.Gor).Set
	_ func(*gor.Gor, int, int) (api.Val, api.Errno)                         = (*gor.Gor).Get
	_ func(*gor.Gor, int, int) (api.Val, api.Errno)                         = (*gor.Gor).Load
	_ func(*gor.Gor, int, int, uint64) api.Errno                            = (*gor.Gor).Write
	_ func(*gor.Gor, uint8, int, ...int) api.Errno                          = (*gor.Gor).Calc
	_ func(*gor.Gor, int) (bool, api.Errno)                                 = (*gor.Gor).Shrink
	_ func(*gor.Gor, int) api.Errno                                         = (*gor.Gor).Exit
	_ func(*gor.Gor) []api.AFrame                                           = (*gor.Gor).Row
	_ func(*gor.Gor) api.Stack                                              = (*gor.Gor).Stack
)

// rule makes numbers one behind the other, that hang on the one it starts with alone.
type rule uint64

// next is the rule's next number.
func (r *rule) next() uint64 {
	*r = *r*6364136223846793005 + 1442695040888963407
	x := uint64(*r)
	return x ^ x>>29
}

// below is a number from 0 to n-1.
func (r *rule) below(n int) int { return int(r.next() >> 1 % uint64(n)) }

// numbers are those around processors, functions, slots, limits, and both ends of an int.
func numbers() []int {
	l := []int{math.MinInt, math.MinInt + 1, math.MinInt + 16, -1 << 62, -1 << 32, -65536, -16, -2, -1, 0, 1, 2, 3, 4, 5, 6, 7, 8, 15, 16, 17, 24, 31, 32, 33, 60, 64, 96, 128, 256, 1000, 1024, 65535, 65536, 65537, 131072}
	for _, n := range []int{1 << 31, 1 << 32, 1 << 40, 1 << 62} {
		l = append(l, n-1, n, n+1)
	}
	return append(l, math.MaxInt-16, math.MaxInt-1, math.MaxInt)
}

// fn is a function as it is told: for each of its slots whether it is a pointer slot.
type fn []bool

// some are the functions that most tests ask: of both kinds of slots, of none, of one alone, of many.
func some() []fn {
	return []fn{{false, true}, {true, false, true, false, false}, {}, {true}, {false}, great(20, 3, 7)}
}

// great is a function of so many slots, whose pointer slots are those that these numbers divide.
func great(n int, by ...int) fn {
	x := make(fn, n)
	for slot := range x {
		x[slot] = slices.ContainsFunc(by, func(d int) bool { return slot%d == d-1 })
	}
	return x
}

// scalars are functions of so many slots each, none of them a pointer slot.
func scalars(sizes ...int) []fn {
	var l []fn
	for _, n := range sizes {
		l = append(l, make(fn, n))
	}
	return l
}

// table is one of these functions.
func table(t *testing.T, l ...fn) *fns.Table {
	t.Helper()
	var f []api.Fn
	for _, ptrs := range l {
		x := api.Fn{Size: len(ptrs), Ptrs: make([]uint64, (len(ptrs)+63)/64)}
		for slot, ptr := range ptrs {
			if ptr {
				x.Ptrs[slot/64] |= 1 << (slot % 64)
			}
		}
		f = append(f, x)
	}
	x, e := fns.New(f...)
	if e != api.OK {
		t.Fatalf("a table of %v: %v", l, e)
	}
	return x
}

// ref refers to a slot, scalar has these bits.
func ref(depth, slot int) api.Val { return api.Val{Kind: 2, Depth: depth, Slot: slot} }
func scalar(bits uint64) api.Val  { return api.Val{Kind: 1, Bits: bits} }

// alike tells whether two rows are the same.
func alike(a, b []api.AFrame) bool {
	return slices.EqualFunc(a, b, func(x, y api.AFrame) bool {
		return x.Fn == y.Fn && slices.Equal(x.Slots, y.Slots)
	})
}

// one is a goroutine, and what is told of it: its row as layer 19 tells, and its stack. Of one that is gone there are none.
type one struct {
	g     *gor.Gor
	limit int
	row   []api.AFrame
	stack api.Stack
}

// world is stacks that goroutines have, and other ones, of which just those are made and freed that the chapter tells: both must have the same at hand.
type world struct {
	t        *testing.T
	s, other *stacks.Stacks
	procs    int
	f        []fn
	x        *fns.Table
	all      []*one
}

// newWorld has no goroutines yet.
func newWorld(t *testing.T, pages, procs int, f []fn) *world {
	t.Helper()
	s, e := stacks.New(pages, procs)
	other, _ := stacks.New(pages, procs)
	if e != api.OK {
		t.Fatalf("stacks of %d pages: %v", pages, e)
	}
	return &world{t: t, s: s, other: other, procs: procs, f: f, x: table(t, f...)}
}

// words is how many words a row takes.
func (w *world) words(row []api.AFrame) int {
	n := 0
	for _, x := range row {
		n += 2 + len(w.f[x.Fn])
	}
	return n
}

// fit is a size, doubled till so many words fit.
func fit(size, words int) int {
	for size < words {
		size *= 2
	}
	return size
}

// isLimit tells whether it may be a limit.
func isLimit(n int) bool {
	return slices.Contains([]int{16, 32, 64, 128, 256, 512, 1024, 2048, 4096, 8192, 16384, 32768, 65536}, n)
}

// spawned is what New should answer, and the goroutine that it should be.
func (w *world) spawned(limit, proc, f int) (*one, api.Errno) {
	if proc < 0 || proc >= w.procs || f < 0 || f >= len(w.f) || !isLimit(limit) {
		return nil, api.ErrArg
	}
	if 2+len(w.f[f]) > limit {
		return nil, api.ErrLimit
	}
	o := &one{limit: limit}
	if e := w.moved(o, proc, fit(16, 2+len(w.f[f]))); e != api.OK {
		return nil, e
	}
	o.row, _ = model.Call(w.x, nil, f)
	w.settle(o)
	return o, api.OK
}

// spawn asks for a goroutine, and holds what is answered.
func (w *world) spawn(limit, proc, f int) (*one, api.Errno) {
	w.t.Helper()
	g, e := gor.New(w.s, w.x, limit, proc, f)
	o, want := w.spawned(limit, proc, f)
	if e != want || (g == nil) != (want != api.OK) {
		w.t.Fatalf("P20.1: New(%d, %d, %d) = %v, %v, not %v", limit, proc, f, g, e, want)
	}
	if e == api.OK {
		o.g = g
		w.all = append(w.all, o)
	}
	w.hold("New", limit, proc, f)
	return o, e
}

// must is a goroutine that there is room for.
func (w *world) must(limit, proc, f int) *one {
	w.t.Helper()
	o, e := w.spawn(limit, proc, f)
	if e != api.OK {
		w.t.Fatalf("New(%d, %d, %d): %v", limit, proc, f, e)
	}
	return o
}

// settle lets SP be where the row ends.
func (w *world) settle(o *one) {
	o.stack.SP = o.stack.Lo + o.stack.Size - w.words(o.row)
}

// moved lets the stack be another one, of this size, if it isn't already.
func (w *world) moved(o *one, proc, size int) api.Errno {
	if size == o.stack.Size {
		return api.OK
	}
	at, e := w.other.Make(proc, size)
	if e != api.OK {
		return e
	}
	if o.stack.Size > 0 && w.other.Free(proc, o.stack.Lo, o.stack.Size) != api.OK {
		w.t.Fatalf("%v isn't freed", o.stack)
	}
	o.stack = api.Stack{Lo: at, Size: size}
	w.settle(o)
	return api.OK
}

// The calls that are asked of a goroutine.
const (
	calls = iota
	returns
	sets
	gets
	loads
	writes
	calculates
	shrinks
	exits
	kinds
)

// ask is one of these calls, with what it is asked.
type ask struct {
	kind, proc, f int
	depth, slot   int
	v             api.Val
	op            uint8
	slots         []int
}

// answer is what it answers.
type answer struct {
	v   api.Val
	did bool
	e   api.Errno
}

// do is what the program answers. What is written has the value's bits.
func do(g *gor.Gor, a ask) answer {
	var o answer
	switch a.kind {
	case calls:
		o.e = g.Call(a.proc, a.f)
	case returns:
		o.e = g.Return()
	case sets:
		o.e = g.Set(a.depth, a.slot, a.v)
	case gets:
		o.v, o.e = g.Get(a.depth, a.slot)
	case loads:
		o.v, o.e = g.Load(a.depth, a.slot)
	case writes:
		o.e = g.Write(a.depth, a.slot, a.v.Bits)
	case calculates:
		o.e = g.Calc(a.op, a.depth, a.slots...)
	case shrinks:
		o.did, o.e = g.Shrink(a.proc)
	case exits:
		o.e = g.Exit(a.proc)
	}
	return o
}

// should is what it should answer; what is told of the goroutine is changed as the chapter says.
func (w *world) should(o *one, a ask) answer {
	if o.stack.Size == 0 {
		return answer{e: api.ErrNone}
	}
	there := a.proc >= 0 && a.proc < w.procs
	switch a.kind {
	case calls:
		return answer{e: w.called(o, there, a.proc, a.f)}
	case shrinks:
		if !there {
			return answer{e: api.ErrArg}
		}
		if o.stack.Size == 16 || 4*w.words(o.row) > o.stack.Size {
			return answer{}
		}
		e := w.moved(o, a.proc, o.stack.Size/2)
		return answer{did: e == api.OK, e: e}
	case exits:
		if !there {
			return answer{e: api.ErrArg}
		}
		w.other.Free(a.proc, o.stack.Lo, o.stack.Size)
		o.stack, o.row = api.Stack{}, nil
		return answer{}
	}
	return w.asked(o, a)
}

// called is what Call should answer.
func (w *world) called(o *one, there bool, proc, f int) api.Errno {
	if !there || f < 0 || f >= len(w.f) {
		return api.ErrArg
	}
	need := w.words(o.row) + 2 + len(w.f[f])
	if need > o.limit {
		return api.ErrLimit
	}
	if e := w.moved(o, proc, fit(o.stack.Size, need)); e != api.OK {
		return e
	}
	o.row, _ = model.Call(w.x, o.row, f)
	w.settle(o)
	return api.OK
}

// asked is what the calls should answer that are as layer 19 tells of the row.
func (w *world) asked(o *one, a ask) answer {
	var out answer
	row := o.row
	switch a.kind {
	case returns:
		row, out.e = model.Return(w.x, row)
	case sets:
		row, out.e = model.Set(w.x, row, a.depth, a.slot, a.v)
	case gets:
		out.v, out.e = model.Get(w.x, row, a.depth, a.slot)
	case loads:
		out.v, out.e = model.Load(w.x, row, a.depth, a.slot)
	case writes:
		row, out.e = model.Write(w.x, row, a.depth, a.slot, a.v.Bits)
	case calculates:
		row, out.e = model.Calc(w.x, row, a.op, a.depth, a.slots...)
	}
	o.row = row
	w.settle(o)
	return out
}

// ask asks a goroutine, and holds what is answered, and all that can be told then.
func (w *world) ask(o *one, a ask) api.Errno {
	w.t.Helper()
	got, want := do(o.g, a), w.should(o, a)
	if got != want {
		w.t.Fatalf("P20.1: %+v of %v: %+v, not %+v", a, o.row, got, want)
	}
	w.hold("behind", a)
	return got.e
}

// hold holds what is at hand, all rows, all stacks, and all words of them that are used.
func (w *world) hold(what ...any) {
	w.t.Helper()
	if got, want := hand(w.s, w.procs), hand(w.other, w.procs); !slices.Equal(got, want) {
		w.t.Fatalf("P20.1: %v: at hand is %v, not %v", what, got, want)
	}
	a, _, _, _, _ := w.s.Parts()
	for n, o := range w.all {
		if got := o.g.Stack(); got != o.stack {
			w.t.Fatalf("P20.3: %v: the stack of %d is %v, not %v", what, n, got, o.stack)
		}
		if got := o.g.Row(); !alike(got, o.row) {
			w.t.Fatalf("P20.2: %v: the row of %d is %v, not %v", what, n, got, o.row)
		}
		want := w.laid(o)
		got, e := a.Row(o.stack.SP, len(want))
		if e != api.OK || !slices.Equal(got, want) || o.stack.SP < o.stack.Lo || o.stack.Size > o.limit {
			w.t.Fatalf("P20.2, P20.3: %v: the words of %d, at %v, are %d, not %d: %v", what, n, o.stack, got, want, e)
		}
	}
}

// laid are the words of a row, as the chapters 14 and 16 tell of frames that stand to the stack's end.
func (w *world) laid(o *one) []uint64 {
	end := o.stack.Lo + o.stack.Size
	words := make([]uint64, w.words(o.row))
	var bases []int
	at := end
	for depth, x := range o.row {
		link := uint64(at) + 1
		if depth == 0 {
			link = 0
		}
		at -= 2 + len(w.f[x.Fn])
		bases = append(bases, at)
		to := words[len(words)-(end-at):]
		to[0], to[1] = link, uint64(x.Fn)+1
		for slot, v := range x.Slots {
			to[2+slot] = v.Bits
			if v.Kind == api.ValRef {
				to[2+slot] = uint64(bases[v.Depth] + 2 + v.Slot)
			}
		}
	}
	return words
}

// hand is what stacks have at hand, list by list.
func hand(s *stacks.Stacks, procs int) []int {
	_, h, p, k, c := s.Parts()
	var l []int
	add := func(list ...int) { l = append(append(l, list...), -9) }
	for _, r := range h.Runs() {
		add(r.Start, r.Len)
	}
	for _, x := range h.Spans() {
		add(x.ID, x.Start, x.Len, x.Order)
	}
	for order := range 4 {
		add(p.List(order)...)
		for proc := range procs {
			add(c.List(proc, order)...)
		}
	}
	for pages := 4; pages <= 1024; pages *= 2 {
		add(k.Kept(pages)...)
	}
	add(k.Waits()...)
	if s.Collects() {
		add(1)
	}
	return l
}

// open, close and flush do so of both stacks.
func (w *world) open() {
	if w.s.Open() != w.other.Open() {
		w.t.Fatal("both aren't opened")
	}
}

func (w *world) close() {
	if w.s.Close() != w.other.Close() {
		w.t.Fatal("both aren't closed")
	}
}

func (w *world) flush() {
	if w.s.Flush() != w.other.Flush() {
		w.t.Fatal("both aren't flushed")
	}
}

// end lets all go, and holds that all pages are one free run then.
func (w *world) end() {
	w.t.Helper()
	for _, o := range w.all {
		w.ask(o, ask{kind: exits})
	}
	w.close()
	w.flush()
	a, h, _, _, _ := w.s.Parts()
	if got := h.Runs(); !slices.Equal(got, []api.Run{{Start: 0, Len: a.Words() / 64}}) {
		w.t.Fatalf("T5: when all have gone, free is %v", got)
	}
}

// TestExample is the chapter's: of a function of 20 slots the first stack has 32 words.
func TestExample(t *testing.T) {
	s, _ := stacks.New(4, 1)
	g, e := gor.New(s, table(t, make(fn, 20)), 1024, 0, 0)
	if e != api.OK || g.Stack().Size != 32 {
		t.Errorf("P20.1: New = %v, %v", g.Stack(), e)
	}
}

// TestNew has first stacks of all functions' sizes, and of each limit.
func TestNew(t *testing.T) {
	w := newWorld(t, 64, 2, scalars(0, 1, 13, 14, 15, 29, 30, 31, 61, 62, 63, 125, 126, 127, 253, 254, 255, 509, 510, 511, 999, 1000))
	for f := range w.f {
		for limit := 16; limit <= 65536; limit *= 2 {
			o, e := w.spawn(limit, f%2, f)
			if e == api.OK {
				w.ask(o, ask{kind: exits, proc: limit / 16 % 2})
			}
		}
	}
	w.end()
}

// TestNewErrors has each error of New, told in the chapter's order, with all numbers that may not be.
func TestNewErrors(t *testing.T) {
	w := newWorld(t, 4, 2, scalars(2, 14, 15, 250, 1000))
	w.must(16, 0, 0)
	for _, c := range []struct {
		limit, proc, f int
		want           api.Errno
	}{
		{16, 0, 1, api.OK}, {16, 0, 2, api.ErrLimit}, {32, 1, 3, api.ErrLimit}, {256, 0, 3, api.ErrMemory}, {128, 0, 3, api.ErrLimit}, {65536, 0, 4, api.ErrMemory}, {512, 0, 4, api.ErrLimit},
		{16, 2, 4, api.ErrArg}, {16, -1, 4, api.ErrArg}, {16, 0, 5, api.ErrArg}, {16, 0, -1, api.ErrArg}, {0, 0, 4, api.ErrArg}, {8, 0, 0, api.ErrArg}, {24, 0, 4, api.ErrArg}, {60, 0, 0, api.ErrArg}, {-16, 0, 4, api.ErrArg}, {131072, 0, 0, api.ErrArg}, {15, 2, 5, api.ErrArg},
	} {
		if _, e := w.spawn(c.limit, c.proc, c.f); e != c.want {
			t.Errorf("P20.1, P0.2: New(%d, %d, %d): %v, not %v", c.limit, c.proc, c.f, e, c.want)
		}
	}
	for _, n := range numbers() {
		for _, m := range []int{-1, 0, 2, 4, 5} {
			w.spawn(n, 0, m)
			w.spawn(16, n, m)
			w.spawn(16, m, n)
			w.spawn(n, n, n)
		}
	}
	for _, c := range []struct {
		s *stacks.Stacks
		x *fns.Table
	}{{nil, w.x}, {w.s, nil}, {nil, nil}} {
		if g, e := gor.New(c.s, c.x, 16, 0, 0); g != nil || e != api.ErrArg {
			t.Errorf("P20.1, P0.1: New of nil stacks, or of a nil table: %v, %v", g, e)
		}
	}
	w.hold("no stacks, no table")
}

// TestCall has second frames of all sizes, behind first ones of all sizes: the stack grows just if it must, and as far as it must.
func TestCall(t *testing.T) {
	sizes := []int{0, 1, 6, 12, 13, 14, 28, 29, 30, 31, 60, 62, 126, 250, 254, 510, 1000}
	w := newWorld(t, 256, 3, scalars(sizes...))
	for f := range sizes {
		for g := range sizes {
			o := w.must(4096, f%3, f)
			was := o.stack
			w.ask(o, ask{kind: calls, proc: g % 3, f: g})
			if (o.g.Stack().Lo == was.Lo) != (4+sizes[f]+sizes[g] <= was.Size) {
				t.Fatalf("P20.1: Call of %d slots behind %d, in %v: %v", sizes[g], sizes[f], was, o.g.Stack())
			}
			w.ask(o, ask{kind: exits, proc: 1})
		}
	}
	w.end()
}

// TestCallErrors has each error of Call, told in the chapter's order.
func TestCallErrors(t *testing.T) {
	w := newWorld(t, 8, 2, scalars(2, 120, 250, 1000))
	o := w.must(512, 0, 1)
	for _, c := range []struct {
		proc, f int
		want    api.Errno
	}{
		// 122 words are used, of 128: 6 fit, more make a stack of 256, and 4 pages are free.
		{2, 0, api.ErrArg}, {-1, 3, api.ErrArg}, {0, 4, api.ErrArg}, {0, -1, api.ErrArg}, {5, 3, api.ErrArg}, {0, 3, api.ErrLimit},
		{1, 2, api.ErrMemory}, {1, 0, api.OK}, {0, 0, api.OK}, {1, 2, api.ErrMemory}, {1, 3, api.ErrLimit}, {2, 3, api.ErrArg}, {0, 4, api.ErrArg},
		// 130 are used, of 256: 122 more fit, and no more then.
		{2, 1, api.ErrArg}, {0, 1, api.OK}, {0, 0, api.OK}, {0, 0, api.ErrMemory}, {0, 2, api.ErrMemory}, {0, 3, api.ErrLimit}, {-1, 0, api.ErrArg}, {0, 5, api.ErrArg},
	} {
		if e := w.ask(o, ask{kind: calls, proc: c.proc, f: c.f}); e != c.want {
			t.Errorf("P20.1, P0.2: Call(%d, %d): %v, not %v", c.proc, c.f, e, c.want)
		}
	}
	for _, n := range numbers() {
		w.ask(o, ask{kind: calls, proc: n})
		w.ask(o, ask{kind: calls, f: n})
		w.ask(o, ask{kind: calls, proc: n, f: n})
	}
	w.end()
}

// TestLimit fills stacks to each limit: the last word may be used, one more is ErrLimit, be there memory or not.
func TestLimit(t *testing.T) {
	for limit := 16; limit <= 2048; limit *= 2 {
		for _, pages := range []int{4, 12, 128} {
			w := newWorld(t, pages, 1, scalars(0, 1, 12))
			o := w.must(limit, 0, 0)
			for w.ask(o, ask{kind: calls, f: 2}) == api.OK {
			}
			for w.ask(o, ask{kind: calls, f: 0}) == api.OK {
			}
			e := w.ask(o, ask{kind: calls, f: 1})
			if pages == 128 && (e != api.ErrLimit || w.words(o.g.Row()) != limit || o.g.Stack().Size != limit) {
				t.Errorf("T4: of the limit %d %d words are used, of %d: %v", limit, w.words(o.g.Row()), o.g.Stack().Size, e)
			}
			for w.ask(o, ask{kind: returns}) == api.OK {
			}
			w.end()
		}
	}
}

// TestMemory has calls and shrinks that there is no room for: nothing changes, and they go when there is room.
func TestMemory(t *testing.T) {
	w := newWorld(t, 8, 1, scalars(2, 120, 250))
	o, p := w.must(1024, 0, 2), w.must(1024, 0, 1)
	q := w.must(1024, 0, 1)
	if e := w.ask(q, ask{kind: calls, f: 0}); e != api.OK || q.g.Stack().Size != 128 {
		t.Fatalf("P20.1: Call, in the room that is left: %v", e)
	}
	for range 3 {
		if e := w.ask(q, ask{kind: calls, f: 0}); e != api.ErrMemory {
			t.Fatalf("P20.1: Call, a stack of 256 words being needed: %v", e)
		}
	}
	if w.ask(o, ask{kind: exits}) != api.OK || w.ask(q, ask{kind: calls, f: 0}) != api.OK || q.g.Stack().Size != 256 {
		t.Fatal("P20.1: Call, when there is room")
	}
	w.ask(q, ask{kind: returns})
	w.ask(q, ask{kind: returns})
	w.ask(p, ask{kind: exits})
	w.end()

	// Both blocks of 128 words are others': the one of 256 words, that was made from one of them, has no room to go back.
	w = newWorld(t, 12, 1, scalars(2, 120, 250))
	o = w.must(256, 0, 0)
	w.ask(o, ask{kind: calls, f: 1})
	w.ask(o, ask{kind: calls, f: 1})
	w.ask(o, ask{kind: returns})
	w.ask(o, ask{kind: returns})
	p, q = w.must(256, 0, 1), w.must(256, 0, 1)
	if p.stack.Size != 128 || q.stack.Size != 128 || o.stack.Size != 256 {
		t.Fatalf("the stacks have %d, %d and %d words", p.stack.Size, q.stack.Size, o.stack.Size)
	}
	for range 3 {
		if e := w.ask(o, ask{kind: shrinks}); e != api.ErrMemory {
			t.Fatalf("P20.1: Shrink, without room for one of 128 words: %v", e)
		}
	}
	if e := w.ask(o, ask{kind: shrinks, proc: 1}); e != api.ErrArg {
		t.Fatalf("P0.2: Shrink, without room, by no processor: %v", e)
	}
	w.ask(p, ask{kind: exits})
	if w.ask(o, ask{kind: shrinks}) != api.OK || o.g.Stack().Size != 128 {
		t.Fatalf("P20.1: Shrink, when there is room: %v", o.g.Stack())
	}
	w.end()
}

// TestReturn has frames that return till the bottom one is left, with slots that were referred to.
func TestReturn(t *testing.T) {
	w := newWorld(t, 64, 1, some())
	o := w.must(1024, 0, 1)
	for n := range 24 {
		w.ask(o, ask{kind: calls, f: n % 6})
		w.ask(o, ask{kind: sets, depth: n + 1, slot: 0, v: ref(n, 0)})
		w.ask(o, ask{kind: sets, depth: n + 1, slot: 0, v: scalar(5)})
	}
	was := o.stack
	for range 24 {
		if e := w.ask(o, ask{kind: returns}); e != api.OK {
			t.Fatalf("P20.1: Return: %v", e)
		}
	}
	if got := o.g.Stack(); got.Lo != was.Lo || got.Size != was.Size || got.SP != was.Lo+was.Size-7 {
		t.Errorf("P20.1: behind the returns the stack is %v, not where %v was", got, was)
	}
	for range 2 {
		if e := w.ask(o, ask{kind: returns}); e != api.ErrBottom {
			t.Errorf("P20.1: the bottom frame returns: %v", e)
		}
	}
	if e := w.ask(o, ask{kind: gets, depth: 1}); e != api.ErrRange {
		t.Errorf("P20.1: Get of a frame that has returned: %v", e)
	}
	w.end()
}

// values are those of all kinds, those that may not be, and references to slots that are there, and that aren't.
func values() []api.Val {
	l := []api.Val{{}, scalar(0), scalar(1 << 63), scalar(api.NaN), scalar(math.MaxUint64), {Kind: 3}, {Kind: 255, Bits: 1}, {Bits: 1}, {Depth: 1}, {Slot: 1}, {Kind: 1, Depth: 1}, {Kind: 1, Slot: -1}, {Kind: 2, Bits: 1}}
	for depth := -1; depth <= 4; depth++ {
		for slot := -1; slot <= 5; slot++ {
			l = append(l, ref(depth, slot))
		}
	}
	return append(l, ref(math.MaxInt, math.MaxInt), ref(math.MinInt, 0), ref(0, math.MinInt), ref(0, math.MaxInt))
}

// three is a goroutine with three frames, whose pointer slots have references of all kinds, and nothing.
func three(w *world) *one {
	o := w.must(64, 0, 1)
	w.ask(o, ask{kind: calls, f: 1})
	w.ask(o, ask{kind: calls, f: 0})
	for _, a := range []ask{{depth: 0, slot: 1, v: scalar(0x3FF0000000000000)}, {depth: 0, slot: 3, v: scalar(1 << 63)}, {depth: 0, slot: 4, v: scalar(7)}, {depth: 0, slot: 0, v: ref(0, 4)}, {depth: 1, slot: 0, v: ref(0, 0)}, {depth: 1, slot: 2, v: ref(1, 2)}, {depth: 1, slot: 3, v: scalar(api.NaN)}, {depth: 2, slot: 1, v: ref(1, 3)}} {
		a.kind = sets
		if e := w.ask(o, a); e != api.OK {
			w.t.Fatalf("P20.1: %+v: %v", a, e)
		}
	}
	return o
}

// TestSet has each value set in each slot, and in such that aren't there.
func TestSet(t *testing.T) {
	w := newWorld(t, 8, 1, some())
	o := three(w)
	met := map[api.Errno]int{}
	for depth := -1; depth <= 3; depth++ {
		for slot := -1; slot <= 5; slot++ {
			for _, v := range values() {
				met[w.ask(o, ask{kind: sets, depth: depth, slot: slot, v: v})]++
			}
		}
	}
	for _, e := range []api.Errno{api.OK, api.ErrRange, api.ErrArg, api.ErrKind, api.ErrDepth} {
		if met[e] == 0 {
			t.Errorf("no Set answers %v", e)
		}
	}
}

// TestSlots has each slot, and such that aren't there, got, loaded and written.
func TestSlots(t *testing.T) {
	w := newWorld(t, 8, 1, some())
	o := three(w)
	met := map[[2]int]int{}
	for depth := -1; depth <= 3; depth++ {
		for slot := -1; slot <= 5; slot++ {
			for _, kind := range []int{gets, loads, writes, loads} {
				met[[2]int{kind, int(w.ask(o, ask{kind: kind, depth: depth, slot: slot, v: scalar(uint64(100*depth + slot))}))}]++
			}
			// What they have is nothing then, where that may be.
			w.ask(o, ask{kind: sets, depth: depth, slot: slot})
			w.ask(o, ask{kind: loads, depth: depth, slot: slot})
			w.ask(o, ask{kind: writes, depth: depth, slot: slot, v: scalar(6)})
		}
	}
	for kind, all := range map[int][]api.Errno{gets: {api.OK, api.ErrRange}, loads: {api.OK, api.ErrRange, api.ErrKind, api.ErrNil}, writes: {api.OK, api.ErrRange, api.ErrKind, api.ErrNil}} {
		for _, e := range all {
			if met[[2]int{kind, int(e)}] == 0 {
				t.Errorf("the call %d never answers %v", kind, e)
			}
		}
	}
}

// TestCalc has each operation, of each three slots of each frame, and which of several errors is told.
func TestCalc(t *testing.T) {
	w := newWorld(t, 8, 1, some())
	o := three(w)
	for op := range 13 {
		for depth := -1; depth <= 3; depth++ {
			for n := range 7 * 7 * 7 {
				w.ask(o, ask{kind: calculates, op: uint8(op), depth: depth, slots: []int{n/49 - 1, n/7%7 - 1, n%7 - 1}})
			}
		}
	}
	for _, c := range []struct {
		op    uint8
		depth int
		slots []int
		want  api.Errno
	}{
		{1, 0, []int{1, 3, 4}, api.OK}, {10, 0, []int{3, 3, 3}, api.OK},
		{0, 0, []int{1, 3, 4}, api.ErrArg}, {11, 9, []int{0, 3, 4}, api.ErrArg}, {255, 0, []int{9, 3, 4}, api.ErrArg}, {1, 9, nil, api.ErrArg}, {1, 0, []int{1}, api.ErrArg}, {1, 0, []int{1, 3}, api.ErrArg}, {1, 0, []int{1, 3, 4, 1}, api.ErrArg}, {1, 0, []int{0, 9}, api.ErrArg},
		{1, 3, []int{1, 3, 4}, api.ErrRange}, {1, -1, []int{0, 0, 0}, api.ErrRange}, {1, 0, []int{0, 3, 5}, api.ErrRange}, {1, 0, []int{0, -1, 3}, api.ErrRange}, {1, 0, []int{5, 0, 0}, api.ErrRange}, {1, 1, []int{0, 0, 5}, api.ErrRange},
		{1, 0, []int{0, 3, 4}, api.ErrKind}, {1, 0, []int{1, 2, 4}, api.ErrKind}, {1, 0, []int{1, 3, 0}, api.ErrKind}, {9, 0, []int{1, 3, 0}, api.ErrKind},
	} {
		if e := w.ask(o, ask{kind: calculates, op: c.op, depth: c.depth, slots: c.slots}); e != c.want {
			t.Errorf("P20.1, P0.2: Calc(%d, %d, %v): %v, not %v", c.op, c.depth, c.slots, e, c.want)
		}
	}
}

// bits are floats' of each class, NaNs with all sorts of fractions among them.
func bits() []uint64 {
	r := rule(11)
	l := []uint64{0, 1, 1 << 63, 0x7FF0000000000000, 0xFFF0000000000000, 0x7FF0000000000001, 0xFFF0000000000001, 0x7FF7FFFFFFFFFFFF, api.NaN, 0x7FF8000000000000, 0xFFF8000000000000, 0x7FFFFFFFFFFFFFFF, math.MaxUint64, 0x000FFFFFFFFFFFFF, 0x3FF0000000000000}
	for range 60 {
		l = append(l, r.next(), r.next()|0x7FF0000000000000)
	}
	return l
}

// TestBitsStay has floats' bits set, written, loaded, calculated with and moved: they stay as they are, but NaNs that are calculated become the one NaN.
func TestBitsStay(t *testing.T) {
	w := newWorld(t, 16, 1, []fn{{false, true, false, false}, great(40)})
	o := w.must(1024, 0, 0)
	w.ask(o, ask{kind: sets, slot: 1, v: ref(0, 2)})
	for _, b := range bits() {
		w.ask(o, ask{kind: sets, slot: 0, v: scalar(b)})
		w.ask(o, ask{kind: writes, slot: 1, v: scalar(b)})
		w.ask(o, ask{kind: calls, f: 1})
		w.ask(o, ask{kind: returns})
		w.ask(o, ask{kind: shrinks})
		w.ask(o, ask{kind: shrinks})
		v, e := o.g.Get(0, 0)
		l, f := o.g.Load(0, 1)
		if v != scalar(b) || l != scalar(b) || e != api.OK || f != api.OK || o.g.Stack().Size != 16 {
			t.Fatalf("T1: of the bits %x %v is got, %v is loaded: %v, %v", b, v, l, e, f)
		}
		for op := uint8(1); op <= 10; op++ {
			w.ask(o, ask{kind: calculates, op: op, slots: []int{3, 0, 2}})
			w.ask(o, ask{kind: calculates, op: op, slots: []int{3, 3, 0}})
		}
	}
	w.end()
}

// TestAddressesAsScalars has scalars that are the addresses of slots, and frames: they stay when the stack is moved, as pointers don't.
func TestAddressesAsScalars(t *testing.T) {
	w := newWorld(t, 64, 1, []fn{great(12, 2), great(100)})
	o := w.must(4096, 0, 0)
	for range 4 {
		was := o.stack
		for slot := range 12 {
			v := ref(0, (slot+5)%12)
			if slot%2 == 0 {
				v = scalar(uint64(was.Lo + was.Size - 12 + slot))
			}
			w.ask(o, ask{kind: sets, slot: slot, v: v})
		}
		row := o.g.Row()
		w.ask(o, ask{kind: calls, f: 1})
		w.ask(o, ask{kind: calls, f: 1})
		grown := o.stack
		w.ask(o, ask{kind: returns})
		w.ask(o, ask{kind: returns})
		w.ask(o, ask{kind: shrinks})
		if grown.Lo == was.Lo || o.stack.Lo == grown.Lo || !alike(o.g.Row(), row) {
			t.Fatalf("P20.2: from %v to %v to %v: %v, not %v", was, grown, o.stack, o.g.Row(), row)
		}
		for range 3 {
			w.ask(o, ask{kind: shrinks})
		}
	}
	w.end()
}

// TestMoves has a goroutine grow to a great stack, and shrink again: all references of all frames are loaded at each size.
func TestMoves(t *testing.T) {
	w := newWorld(t, 256, 2, []fn{{false, true}, great(30, 3)})
	o := w.must(2048, 0, 0)
	w.ask(o, ask{kind: sets, slot: 0, v: scalar(77)})
	w.ask(o, ask{kind: sets, slot: 1, v: ref(0, 0)})
	for n := 1; w.ask(o, ask{kind: calls, proc: n % 2, f: n % 2}) == api.OK; n++ {
		for slot := range len(w.f[n%2]) {
			w.ask(o, ask{kind: sets, depth: n, slot: slot, v: ref(n-slot%2, (slot+n)%2)})
		}
	}
	if o.stack.Size != 2048 {
		t.Fatalf("P20.1: it has grown to %v", o.stack)
	}
	for size := 0; o.stack.Size > 16; {
		for depth, x := range o.row {
			// All frames' slots once of each size, and one of each frame behind each return.
			for slot := range len(x.Slots) {
				if size != o.stack.Size || slot == 0 {
					a := ask{kind: loads, depth: depth, slot: slot}
					if got, want := do(o.g, a), w.should(o, a); got != want {
						t.Fatalf("P20.2: %+v of %v: %v, not %v", a, o.stack, got, want)
					}
				}
			}
		}
		size = o.stack.Size
		w.ask(o, ask{kind: returns})
		w.ask(o, ask{kind: shrinks, proc: len(o.row) % 2})
	}
	if v, e := o.g.Load(0, 1); v != scalar(77) || e != api.OK {
		t.Errorf("P20.2: Load behind all these moves: %v, %v", v, e)
	}
	w.end()
}

// TestShrink has stacks of each size, of which around a quarter is used.
func TestShrink(t *testing.T) {
	w := newWorld(t, 256, 2, scalars(0, 1, 2, 3, 6, 7, 14, 15, 30, 31, 62, 63, 126, 127, 254, 255, 510, 511, 1000, 1000))
	for f := range w.f {
		for size := 16; size <= 2048; size *= 2 {
			o := w.must(4096, 0, f)
			for o.stack.Size < size {
				w.ask(o, ask{kind: calls, f: 18})
			}
			for w.ask(o, ask{kind: returns}) == api.OK {
			}
			if e := w.ask(o, ask{kind: shrinks, proc: 2}); e != api.ErrArg {
				t.Fatalf("P20.1: Shrink by no processor: %v", e)
			}
			for range 9 {
				w.ask(o, ask{kind: shrinks, proc: 1})
			}
			if used := 2 + len(w.f[f]); o.stack.Size > 16 && 4*used <= o.stack.Size {
				t.Fatalf("T4: of %d words %d are used", o.stack.Size, used)
			}
			w.ask(o, ask{kind: exits})
		}
	}
	for _, n := range numbers() {
		w.ask(w.must(64, 0, 0), ask{kind: shrinks, proc: n})
	}
	w.end()
}

// everything is all calls, with numbers that may be, and that may not.
func everything() []ask {
	var l []ask
	for kind := range kinds {
		for _, n := range []int{math.MinInt, -1, 0, 1, math.MaxInt} {
			l = append(l, ask{kind: kind, proc: n, f: n, depth: n, slot: n}, ask{kind: kind, depth: n, v: api.Val{Kind: 9}, op: 1, slots: []int{n, n, n}}, ask{kind: kind, f: n, v: scalar(3), op: 11, slots: []int{n}})
		}
	}
	return l
}

// gone asks a goroutine that is gone all calls.
func gone(t *testing.T, g *gor.Gor) {
	t.Helper()
	for _, a := range everything() {
		if got := do(g, a); got != (answer{e: api.ErrNone}) {
			t.Fatalf("P20.1: %+v of one that is gone: %+v", a, got)
		}
		if len(g.Row()) != 0 || g.Stack() != (api.Stack{}) {
			t.Fatalf("P20.1: one that is gone has the row %v, the stack %v", g.Row(), g.Stack())
		}
	}
}

// TestExit has goroutines that exit, by each processor, and are gone.
func TestExit(t *testing.T) {
	w := newWorld(t, 64, 2, some())
	for n, f := range []int{0, 1, 5, 2, 3, 4} {
		o, p := w.must(1024, n%2, f), w.must(1024, 0, 1)
		for range n * 3 {
			w.ask(o, ask{kind: calls, proc: 1, f: 5})
		}
		for _, m := range numbers() {
			if m < 0 || m > 1 {
				if e := w.ask(o, ask{kind: exits, proc: m}); e != api.ErrArg {
					t.Fatalf("P20.1: Exit(%d): %v", m, e)
				}
			}
		}
		if e := w.ask(o, ask{kind: exits, proc: (n + 1) % 2}); e != api.OK {
			t.Fatalf("P20.1: Exit: %v", e)
		}
		gone(t, o.g)
		w.hold("gone")
		// What was its stack may be another one's: the one that is gone doesn't touch it.
		three(w)
		gone(t, o.g)
		w.hold("gone, and others are there")
		w.ask(p, ask{kind: exits})
	}
	w.end()
}

// TestNil has a nil goroutine, that is gone.
func TestNil(t *testing.T) {
	gone(t, nil)
}

// TestFresh has frames that stand where others stood: their scalars are 0, their pointer slots have nothing.
func TestFresh(t *testing.T) {
	w := newWorld(t, 32, 1, []fn{great(12, 2), {true, false}})
	for range 3 {
		o := w.must(256, 0, 1)
		for depth := 1; depth < 6; depth++ {
			w.ask(o, ask{kind: calls, f: 0})
			row := o.g.Row()
			for slot, v := range row[depth].Slots {
				if want := scalar(0); v != want && slot%2 == 0 || v != (api.Val{}) && slot%2 == 1 {
					t.Fatalf("P20.1: the slot %d of a frame that was called has %v", slot, v)
				}
				w.ask(o, ask{kind: sets, depth: depth, slot: slot, v: scalar(math.MaxUint64)})
				w.ask(o, ask{kind: sets, depth: depth, slot: slot, v: ref(depth, slot)})
			}
			if depth%2 == 1 {
				w.ask(o, ask{kind: returns})
				w.ask(o, ask{kind: calls, f: 0})
			}
		}
		w.ask(o, ask{kind: exits})
	}
	w.end()
}

// TestProcessors has the stacks made, and the elder ones freed, by the processor that calls, shrinks or exits, whichever one made them.
func TestProcessors(t *testing.T) {
	w := newWorld(t, 32, 3, scalars(2, 20, 40))
	_, _, _, _, c := w.s.Parts()
	lists := func(order int) []int {
		return []int{len(c.List(0, order)), len(c.List(1, order)), len(c.List(2, order))}
	}
	for _, step := range []struct {
		a            ask
		small, great []int // how many blocks of 16, and of 32 words, the processors' lists have then
	}{
		{ask{kind: calls, proc: 1, f: 1}, []int{7, 1, 0}, []int{0, 3, 0}},
		{ask{kind: returns}, []int{7, 1, 0}, []int{0, 3, 0}},
		{ask{kind: shrinks, proc: 2}, []int{7, 1, 7}, []int{0, 3, 1}},
		{ask{kind: exits, proc: 0}, []int{8, 1, 7}, []int{0, 3, 1}},
	} {
		if len(w.all) == 0 {
			if w.must(64, 0, 0); !slices.Equal(lists(0), []int{7, 0, 0}) {
				t.Fatalf("P20.1: by the processor 0: %v", lists(0))
			}
		}
		w.ask(w.all[0], step.a)
		if !slices.Equal(lists(0), step.small) || !slices.Equal(lists(1), step.great) {
			t.Errorf("P20.1: behind %+v the lists have %v and %v blocks, not %v and %v", step.a, lists(0), lists(1), step.small, step.great)
		}
	}
	w.end()
}

// TestCollection has goroutines that grow, shrink and exit while a collection is open: their large stacks wait.
func TestCollection(t *testing.T) {
	w := newWorld(t, 256, 1, scalars(2, 120, 250, 500))
	_, _, _, k, _ := w.s.Parts()
	o, p := w.must(4096, 0, 2), w.must(4096, 0, 3)
	w.open()
	for range 5 {
		w.ask(o, ask{kind: calls, f: 3})
	}
	w.ask(p, ask{kind: exits})
	if got := k.Waits(); len(got) != 4 {
		t.Errorf("T3: those of 256, 1024, 2048 and 512 words wait: %v", got)
	}
	for range 5 {
		w.ask(o, ask{kind: returns})
	}
	w.ask(o, ask{kind: shrinks})
	if got := k.Waits(); len(got) != 5 {
		t.Errorf("T3: that of 4096 words waits, too: %v", got)
	}
	w.close()
	w.hold("closed")
	if got := k.Waits(); len(got) != 0 {
		t.Errorf("T3: behind the collection %v wait", got)
	}
	w.end()
}

// TestNumbers has numbers at both ends of an int wherever one is told.
func TestNumbers(t *testing.T) {
	w := newWorld(t, 8, 2, some())
	o := three(w)
	for _, n := range numbers() {
		for _, m := range numbers() {
			for _, kind := range []int{sets, gets, loads, writes, calculates} {
				w.ask(o, ask{kind: kind, depth: n, slot: m, v: scalar(8), op: 3, slots: []int{m, m, m}})
			}
			w.ask(o, ask{kind: sets, depth: 2, slot: 1, v: ref(n, m)})
		}
		for i := range 3 {
			named := []int{1, 3, 4}
			named[i] = n
			w.ask(o, ask{kind: calculates, op: 3, slots: named})
		}
	}
}

// TestRowIsNew has rows that are written into behind a call: nothing that is told changes, nor does what was answered ahead.
func TestRowIsNew(t *testing.T) {
	w := newWorld(t, 8, 1, some())
	o := three(w)
	w.ask(o, ask{kind: calls, f: 2})
	first, second := o.g.Row(), o.g.Row()
	for depth, x := range first {
		for slot := range x.Slots {
			x.Slots[slot] = scalar(uint64(depth*10 + slot))
		}
		x.Slots = append(x.Slots, scalar(99), scalar(98))
		first[depth].Fn = 3
	}
	for depth, x := range first {
		for slot, v := range x.Slots {
			if v != scalar(uint64(depth*10+slot)) {
				t.Fatal("P0.4: frames of a row share slots")
			}
		}
	}
	if !alike(second, o.row) {
		t.Error("P0.4: rows share slots")
	}
	w.hold("behind writing into a row")
	w.ask(o, ask{kind: sets, depth: 0, slot: 4, v: scalar(12)})
	if second[0].Slots[4] != scalar(7) {
		t.Error("P0.4: what was answered has changed")
	}
	if l := o.g.Row(); len(l[3].Slots) != 0 || l[3].Fn != 2 {
		t.Errorf("P20.1: a frame of no slots: %v", l[3])
	}
}

// TestHandedIn has slots that are told with room behind the list's end, and changed behind the call.
func TestHandedIn(t *testing.T) {
	w := newWorld(t, 8, 1, some())
	o := three(w)
	whole := []int{1, 3, 4, 8, 9}
	for range 3 {
		w.ask(o, ask{kind: calculates, op: api.OpAdd, slots: whole[:3]})
		if !slices.Equal(whole, []int{1, 3, 4, 8, 9}) {
			t.Fatalf("P0.4: Calc makes %v of what is handed in", whole)
		}
	}
	whole[0] = 77
	w.hold("behind changing what was handed in")
}

// TestLongRows has long rows of calls of several goroutines, with collections and flushes between, with little memory, and with much.
func TestLongRows(t *testing.T) {
	met := map[[2]int]int{}
	shrunk := 0
	for start := range 60 {
		r := rule(start)
		w := newWorld(t, []int{4, 8, 12, 32, 100, 200}[start%6], 1+start%3, some())
		for range 800 {
			if len(w.all) == 0 || r.below(12) == 0 && len(w.all) < 8 {
				_, e := w.spawn(16<<r.below(8), r.below(w.procs+1)-r.below(30)/29, r.below(len(w.f)+1)-r.below(30)/29)
				met[[2]int{kinds, int(e)}]++
				continue
			}
			switch r.below(60) {
			case 0:
				w.open()
			case 1, 2:
				w.close()
			case 3:
				w.flush()
			}
			n := r.below(len(w.all))
			o := w.all[n]
			a := random(&r, w, o)
			size := o.stack.Size
			met[[2]int{a.kind, int(w.ask(o, a))}]++
			if o.stack.Size < size && a.kind == shrinks {
				shrunk++
			}
			if o.stack.Size == 0 && r.below(8) == 0 {
				w.all = slices.Delete(w.all, n, n+1)
			}
		}
		w.end()
	}
	for kind, all := range [kinds + 1][]api.Errno{calls: {api.OK, api.ErrArg, api.ErrLimit, api.ErrMemory, api.ErrNone}, returns: {api.OK, api.ErrBottom, api.ErrNone}, sets: {api.OK, api.ErrRange, api.ErrArg, api.ErrKind, api.ErrDepth}, gets: {api.OK, api.ErrRange}, loads: {api.OK, api.ErrRange, api.ErrKind, api.ErrNil}, writes: {api.OK, api.ErrRange, api.ErrKind, api.ErrNil}, calculates: {api.OK, api.ErrArg, api.ErrRange, api.ErrKind}, shrinks: {api.OK, api.ErrArg, api.ErrMemory, api.ErrNone}, exits: {api.OK, api.ErrArg, api.ErrNone}, kinds: {api.OK, api.ErrArg, api.ErrLimit, api.ErrMemory}} {
		for _, e := range all {
			if met[[2]int{kind, int(e)}] < 5 {
				t.Errorf("the call %d answers %v %d times", kind, e, met[[2]int{kind, int(e)}])
			}
		}
	}
	if shrunk < 100 {
		t.Errorf("%d stacks were shrunk", shrunk)
	}
}

// random is a call with numbers that are mostly a goroutine's.
func random(r *rule, w *world, o *one) ask {
	a := ask{kind: r.below(kinds), proc: r.below(w.procs) + r.below(20)/19, f: r.below(len(w.f)) + r.below(20)/19, op: uint8(r.below(12))}
	switch {
	case a.kind == exits && r.below(12) > 0:
		// Most goroutines are there for long, and grow.
		a.kind = calls
	case a.kind == calls && r.below(3) == 0 && len(o.row) > 4:
		// Some of them return far, so that they may shrink.
		a.kind = returns
	}
	a.depth, a.slot = place(r, w, o)
	for range 3 + r.below(20)/19 {
		_, slot := place(r, w, o)
		a.slots = append(a.slots, slot)
	}
	if len(a.slots) == 3 && r.below(2) == 0 {
		a.slots = []int{a.slot, a.slot, a.slot}
	}
	a.v = value(r, w, o, a)
	return a
}

// place is a slot that is mostly there.
func place(r *rule, w *world, o *one) (int, int) {
	depth := r.below(len(o.row)+1) - r.below(50)/49
	if depth < 0 || depth == len(o.row) || r.below(8) == 0 {
		return depth, r.below(8) - 1
	}
	return depth, r.below(max(len(w.f[o.row[depth].Fn]), 1))
}

// value is one that a slot mostly may have.
func value(r *rule, w *world, o *one, a ask) api.Val {
	depth, slot := place(r, w, o)
	if a.depth >= 0 && a.depth < len(o.row) && r.below(4) > 0 {
		depth = min(depth, a.depth)
		if f := w.f[o.row[a.depth].Fn]; a.slot >= 0 && a.slot < len(f) && !f[a.slot] {
			return scalar(r.next())
		}
		return ref(depth, slot)
	}
	switch r.below(4) {
	case 0:
		return api.Val{}
	case 1:
		return scalar(r.next())
	case 2:
		return api.Val{Kind: uint8(r.below(4)), Depth: r.below(3) - 1, Slot: r.below(3) - 1}
	}
	return ref(depth, slot)
}

// TestGreat has the greatest function, in the greatest arena, called till there is no more room.
func TestGreat(t *testing.T) {
	w := newWorld(t, 1024, 16, []fn{great(1000, 2), great(999, 5), {}})
	o := w.must(65536, 15, 0)
	for w.ask(o, ask{kind: calls, proc: len(o.row) % 16}) == api.OK {
		last := len(o.row) - 1
		w.ask(o, ask{kind: sets, depth: last, slot: 999, v: ref(last-1, 999)})
		w.ask(o, ask{kind: sets, depth: last, slot: 998, v: scalar(uint64(last))})
	}
	if o.stack.Size != 32768 || len(o.row) != 32 {
		t.Errorf("P20.1: %d frames of 1002 words have a stack of %d", len(o.row), o.stack.Size)
	}
	w.ask(o, ask{kind: loads, depth: 31, slot: 999})
	w.ask(o, ask{kind: gets, depth: 0, slot: 1000})
	for w.ask(o, ask{kind: returns}) == api.OK {
		w.ask(o, ask{kind: shrinks, proc: 3})
	}
	w.end()
}

// TestDeep has very many frames.
func TestDeep(t *testing.T) {
	s, _ := stacks.New(1024, 1)
	g, e := gor.New(s, table(t, fn{}, fn{true}, fn{false}), 16384, 0, 2)
	if e != api.OK {
		t.Fatal(e)
	}
	for range 8190 {
		if e := g.Call(0, 0); e != api.OK {
			t.Fatalf("P20.1: Call: %v", e)
		}
	}
	if g.Call(0, 0) != api.ErrLimit || g.Call(0, 1) != api.ErrLimit || g.Return() != api.OK || g.Call(0, 1) != api.OK {
		t.Error("P20.1: one word is left, then there are three")
	}
	if g.Set(8190, 0, ref(0, 0)) != api.OK || g.Write(8190, 0, 5) != api.OK || len(g.Row()) != 8191 || g.Stack().Size != 16384 {
		t.Error("P20.1: from the top one to the bottom one")
	}
	if v, e := g.Get(0, 0); v != scalar(5) || e != api.OK {
		t.Errorf("P20.1: Get of the bottom one: %v, %v", v, e)
	}
	for range 8190 {
		if e := g.Return(); e != api.OK {
			t.Fatalf("P20.1: Return: %v", e)
		}
	}
	for size := 8192; size >= 16; size /= 2 {
		if did, e := g.Shrink(0); !did || e != api.OK || g.Stack().Size != size {
			t.Fatalf("P20.1: Shrink: %v, %v, %v", did, e, g.Stack())
		}
	}
	if v, e := g.Get(0, 0); v != scalar(5) || e != api.OK || g.Return() != api.ErrBottom || g.Exit(0) != api.OK {
		t.Errorf("P20.2: behind the shrinks %v, %v", v, e)
	}
}

// TestWrittenOver has words that somebody else writes over, which nothing is promised of, but that all calls end, and none panics.
func TestWrittenOver(t *testing.T) {
	for back := 1; back <= 18; back++ {
		for _, bits := range []uint64{0, 1, 2, 3, 6, 7, 100, 255, 256, 257, 1 << 40, math.MaxInt64, 1 << 63, math.MaxUint64 - 1, math.MaxUint64} {
			for kind := range kinds {
				w := newWorld(t, 8, 1, some())
				o := three(w)
				mem, _, _, _, _ := w.s.Parts()
				if e := mem.Store(o.stack.Lo+o.stack.Size-back, bits); e != api.OK {
					t.Fatal(e)
				}
				for _, next := range []int{kind, calls, shrinks, returns, loads, writes, calculates, calls, returns, sets, gets, exits} {
					do(o.g, ask{kind: next, f: 5 * (next % 2), depth: 1, op: 1, slots: []int{1, 3, 4}})
					o.g.Row()
				}
				if e := o.g.Return(); e != api.ErrNone {
					t.Fatalf("P20.1: Return of one that has exited: %v", e)
				}
			}
		}
	}
}

// TestLeftBehind has words that somebody else writes over, such that the stack can't be moved: what was made for it is free again.
func TestLeftBehind(t *testing.T) {
	w := newWorld(t, 8, 1, scalars(120, 2))
	o := w.must(1024, 0, 0)
	mem, h, _, _, _ := w.s.Parts()
	mem.Store(o.stack.SP+1, 77)
	for range 3 {
		if e := o.g.Call(0, 0); e != api.ErrState || o.g.Stack() != o.stack {
			t.Errorf("P0.3: Call, when no frame is at SP: %v, %v", e, o.g.Stack())
		}
	}
	mem.Store(o.stack.SP+1, 1)
	if e := o.g.Call(0, 0); e != api.OK || o.g.Exit(0) != api.OK {
		t.Errorf("P0.3: Call, when the frame is back: %v", e)
	}
	w.s.Flush()
	if got := h.Runs(); !slices.Equal(got, []api.Run{{Start: 0, Len: 8}}) {
		t.Errorf("P0.3: free is %v", got)
	}
}
