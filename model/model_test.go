package model_test

import (
	"math"
	"slices"
	"testing"

	"shoring/api"
	"shoring/fns"
	"shoring/model"
)

// The signatures are exact: another one doesn't compile here.
var (
	_ func(*fns.Table, []api.AFrame) bool                                          = model.Right
	_ func(*fns.Table, []api.AFrame) int                                           = model.Words
	_ func(*fns.Table, []api.AFrame, int) ([]api.AFrame, api.Errno)                = model.Call
	_ func(*fns.Table, []api.AFrame) ([]api.AFrame, api.Errno)                     = model.Return
	_ func(*fns.Table, []api.AFrame, int, int, api.Val) ([]api.AFrame, api.Errno)  = model.Set
	_ func(*fns.Table, []api.AFrame, int, int) (api.Val, api.Errno)                = model.Get
	_ func(*fns.Table, []api.AFrame, int, int) (api.Val, api.Errno)                = model.Load
	_ func(*fns.Table, []api.AFrame, int, int, uint64) ([]api.AFrame, api.Errno)   = model.Write
	_ func(*fns.Table, []api.AFrame, uint8, int, ...int) ([]api.AFrame, api.Errno) = model.Calc
	_ func([]api.AFrame, []api.AFrame) bool                                        = model.Same
)

// rule makes numbers one behind the other, that hang on the one it starts with alone.
type rule uint64

// next is the rule's next number.
func (r *rule) next() uint64 {
	*r = *r*6364136223846793005 + 1442695040888963407
	x := uint64(*r)
	return x ^ x>>29
}

// below is a number from 0 to n-1.
func (r *rule) below(n int) int { return int(r.next() >> 1 % uint64(n)) }

// fn is a function as it is told: for each of its slots whether it is a pointer slot.
type fn []bool

// some are the functions that most tests ask: of both kinds of slots, of none, of one alone.
func some() []fn {
	return []fn{{false, true}, {true, false, true, false, false}, {}, {true}, {false}}
}

// table is one of these functions.
func table(t *testing.T, l ...fn) *fns.Table {
	t.Helper()
	var f []api.Fn
	for _, ptrs := range l {
		x := api.Fn{Size: len(ptrs), Ptrs: make([]uint64, (len(ptrs)+63)/64)}
		for slot, ptr := range ptrs {
			if ptr {
				x.Ptrs[slot/64] |= 1 << (slot % 64)
			}
		}
		f = append(f, x)
	}
	x, e := fns.New(f...)
	if e != api.OK {
		t.Fatalf("a table of %v: %v", l, e)
	}
	return x
}

// ref refers to a slot, scalar has these bits.
func ref(depth, slot int) api.Val { return api.Val{Kind: 2, Depth: depth, Slot: slot} }
func scalar(bits uint64) api.Val  { return api.Val{Kind: 1, Bits: bits} }

// of is a frame of a function.
func of(f int, vals ...api.Val) api.AFrame { return api.AFrame{Fn: f, Slots: vals} }

// cloned is a row that shares nothing with another one.
func cloned(l []api.AFrame) []api.AFrame {
	out := make([]api.AFrame, len(l))
	for depth, x := range l {
		out[depth] = api.AFrame{Fn: x.Fn, Slots: make([]api.Val, len(x.Slots))}
		copy(out[depth].Slots, x.Slots)
	}
	return out
}

// alike tells whether two rows are the same, without asking the program.
func alike(a, b []api.AFrame) bool {
	if len(a) != len(b) {
		return false
	}
	for depth := range a {
		if a[depth].Fn != b[depth].Fn || !slices.Equal(a[depth].Slots, b[depth].Slots) {
			return false
		}
	}
	return true
}

// place is a slot, as it is told, and what it has.
type place struct {
	depth, slot int
	ptr         bool
	v           api.Val
}

// places are all slots of a row whose frames have as many as their functions, and whether it is one.
func places(f []fn, l []api.AFrame) ([]place, bool) {
	var all []place
	for depth, x := range l {
		if x.Fn < 0 || x.Fn >= len(f) || len(x.Slots) != len(f[x.Fn]) {
			return nil, false
		}
		for slot, ptr := range f[x.Fn] {
			all = append(all, place{depth, slot, ptr, x.Slots[slot]})
		}
	}
	return all, true
}

// at is the slot that is told by a depth and a number, and whether there is one.
func at(all []place, depth, slot int) (place, bool) {
	for _, p := range all {
		if p.depth == depth && p.slot == slot {
			return p, true
		}
	}
	return place{}, false
}

// may tells whether a value may be.
func may(v api.Val) bool {
	switch v.Kind {
	case 0:
		return v.Bits == 0 && v.Depth == 0 && v.Slot == 0
	case 1:
		return v.Depth == 0 && v.Slot == 0
	case 2:
		return v.Bits == 0 && v.Depth >= 0 && v.Slot >= 0
	}
	return false
}

// isRight is what Right should answer.
func isRight(f []fn, l []api.AFrame) bool {
	all, sized := places(f, l)
	for _, p := range all {
		if !may(p.v) || p.ptr && p.v.Kind == 1 || !p.ptr && p.v.Kind != 1 {
			return false
		}
		if p.v.Kind != 2 {
			continue
		}
		if _, there := at(all, p.v.Depth, p.v.Slot); !there || p.v.Depth > p.depth {
			return false
		}
	}
	return sized
}

// words is what Words should answer.
func words(f []fn, l []api.AFrame) int {
	if !isRight(f, l) {
		return 0
	}
	n := 0
	for _, x := range l {
		n += 2 + len(f[x.Fn])
	}
	return n
}

// The calls that answer a row, or a value.
const (
	calls = iota
	returns
	sets
	gets
	loads
	writes
	calculates
	kinds
)

// ask is one of these calls, with what it is asked.
type ask struct {
	kind, f     int
	depth, slot int
	v           api.Val
	op          uint8
	slots       []int
}

// answer is what it answers.
type answer struct {
	l []api.AFrame
	v api.Val
	e api.Errno
}

// do is what the program answers. What is written has the value's bits.
func do(x *fns.Table, l []api.AFrame, a ask) answer {
	var o answer
	switch a.kind {
	case calls:
		o.l, o.e = model.Call(x, l, a.f)
	case returns:
		o.l, o.e = model.Return(x, l)
	case sets:
		o.l, o.e = model.Set(x, l, a.depth, a.slot, a.v)
	case gets:
		o.v, o.e = model.Get(x, l, a.depth, a.slot)
	case loads:
		o.v, o.e = model.Load(x, l, a.depth, a.slot)
	case writes:
		o.l, o.e = model.Write(x, l, a.depth, a.slot, a.v.Bits)
	case calculates:
		o.l, o.e = model.Calc(x, l, a.op, a.depth, a.slots...)
	}
	return o
}

// should is what it should answer.
func should(f []fn, l []api.AFrame, a ask) answer {
	asks := a.kind == gets || a.kind == loads
	o := answer{e: api.ErrState}
	if isRight(f, l) {
		all, _ := places(f, l)
		out := cloned(l)
		o = told(f, out, all, a)
		if o.e == api.OK {
			return o
		}
	}
	if !asks {
		o.l = cloned(l)
	}
	return o
}

// told is what should be answered of a right row, that it may write into, of these places.
func told(f []fn, l []api.AFrame, all []place, a ask) answer {
	p, there := at(all, a.depth, a.slot)
	to, refers := at(all, p.v.Depth, p.v.Slot)
	refers = refers && p.v.Kind == 2
	switch a.kind {
	case calls:
		return called(f, l, a.f)
	case returns:
		if len(l) < 2 {
			return answer{e: api.ErrBottom}
		}
		return answer{l: l[:len(l)-1]}
	case sets:
		return set(l, all, a)
	case gets:
		if there {
			return answer{v: p.v}
		}
	case loads, writes:
		switch {
		case !there:
		case !p.ptr:
			return answer{e: api.ErrKind}
		case !refers:
			return answer{e: api.ErrNil}
		case a.kind == loads:
			return answer{v: to.v}
		case to.ptr:
			return answer{e: api.ErrKind}
		default:
			l[to.depth].Slots[to.slot] = scalar(a.v.Bits)
			return answer{l: l}
		}
	case calculates:
		return calculated(l, all, a)
	}
	return answer{e: api.ErrRange}
}

// called is what should be answered of a call.
func called(f []fn, l []api.AFrame, n int) answer {
	if n < 0 || n >= len(f) {
		return answer{e: api.ErrArg}
	}
	x := of(n, make([]api.Val, len(f[n]))...)
	for slot, ptr := range f[n] {
		if !ptr {
			x.Slots[slot] = scalar(0)
		}
	}
	return answer{l: append(l, x)}
}

// set is what should be answered of a set.
func set(l []api.AFrame, all []place, a ask) answer {
	p, there := at(all, a.depth, a.slot)
	if !there {
		return answer{e: api.ErrRange}
	}
	if !may(a.v) {
		return answer{e: api.ErrArg}
	}
	if p.ptr == (a.v.Kind == 1) {
		return answer{e: api.ErrKind}
	}
	if a.v.Kind == 2 {
		if _, there := at(all, a.v.Depth, a.v.Slot); !there {
			return answer{e: api.ErrRange}
		}
		if a.v.Depth > a.depth {
			return answer{e: api.ErrDepth}
		}
	}
	l[a.depth].Slots[a.slot] = a.v
	return answer{l: l}
}

// calculated is what should be answered of a calculation.
func calculated(l []api.AFrame, all []place, a ask) answer {
	if len(a.slots) != 3 || a.op < 1 || a.op > 10 {
		return answer{e: api.ErrArg}
	}
	var of [3]place
	e := api.OK
	for i, slot := range a.slots {
		p, there := at(all, a.depth, slot)
		if !there {
			return answer{e: api.ErrRange}
		}
		if p.ptr {
			e = api.ErrKind
		}
		of[i] = p
	}
	if e != api.OK {
		return answer{e: e}
	}
	l[a.depth].Slots[a.slots[0]] = scalar(comesTo(a.op, of[1].v.Bits, of[2].v.Bits))
	return answer{l: l}
}

// comesTo is what an operation comes to.
func comesTo(op uint8, a, b uint64) uint64 {
	x, y := math.Float64frombits(a), math.Float64frombits(b)
	truth := map[bool]float64{true: 1}
	other := math.Copysign(x, -1)
	if math.Signbit(x) {
		other = math.Abs(x)
	}
	z := []float64{x + y, x - y, x * y, x / y, truth[x < y], truth[x == y], math.Min(x, y), math.Max(x, y), other, math.Sqrt(x)}[op-1]
	// math's functions go by an infinity first.
	if (op == api.OpMin || op == api.OpMax) && (math.IsNaN(x) || math.IsNaN(y)) {
		z = math.NaN()
	}
	if math.IsNaN(z) {
		return 0x7FF8000000000001
	}
	return math.Float64bits(z)
}

// spread writes into all of a row, and into the room behind its ends, something else at each place.
func spread(l []api.AFrame, from uint64) {
	l = l[:cap(l)]
	for depth := range l {
		vals := l[depth].Slots[:cap(l[depth].Slots)]
		for slot := range vals {
			from++
			vals[slot] = api.Val{Kind: 9, Bits: from, Depth: -7, Slot: -8}
		}
		from++
		l[depth].Fn = int(from)
	}
}

// isSpread tells whether it is as spread left it: where two frames share slots, one of them isn't.
func isSpread(l []api.AFrame, from uint64) bool {
	for _, x := range l[:cap(l)] {
		for _, v := range x.Slots[:cap(x.Slots)] {
			from++
			if v.Bits != from {
				return false
			}
		}
		from++
		if x.Fn != int(from) {
			return false
		}
	}
	return true
}

// hold holds what a call answers of a row: what, of which memory, and that what is handed in stays.
func hold(t *testing.T, x *fns.Table, f []fn, l []api.AFrame, a ask) answer {
	t.Helper()
	in, named := cloned(l), slices.Clone(a.slots)
	got, want := do(x, in, a), should(f, l, a)
	if got.e != want.e || got.v != want.v || !alike(got.l, want.l) {
		t.Fatalf("P19.1: %+v of %v: %v, not %v", a, l, got, want)
	}
	if !alike(in, l) || !slices.Equal(a.slots, named) {
		t.Fatalf("P0.4: %+v makes %v of %v", a, in, l)
	}
	if got.e == api.OK && !isRight(f, got.l) {
		t.Fatalf("P19.2: %+v of %v: %v", a, l, got.l)
	}
	kept := cloned(got.l)
	spread(got.l, 100)
	if !isSpread(got.l, 100) {
		t.Fatalf("P0.4: %+v of %v answers frames that share slots", a, l)
	}
	if !alike(in, l) {
		t.Fatalf("P0.4: what is written into the answer of %+v is in %v then", a, l)
	}
	return answer{kept, got.v, got.e}
}

// holdRow holds what is asked of a row alone.
func holdRow(t *testing.T, x *fns.Table, f []fn, l []api.AFrame) {
	t.Helper()
	in := cloned(l)
	if got, want := model.Right(x, in), isRight(f, l); got != want {
		t.Fatalf("P19.1: Right(%v) = %v", l, got)
	}
	if got, want := model.Words(x, in), words(f, l); got != want {
		t.Fatalf("P19.1: Words(%v) = %d, not %d", l, got, want)
	}
	if !model.Same(in, l) || !alike(in, l) {
		t.Fatalf("P19.1, P0.4: a row of %v and itself", l)
	}
}

// three is a right row of three frames of some functions: of each kind of value some, references to the own frame and to those below.
func three() []api.AFrame {
	return []api.AFrame{
		of(0, scalar(5), ref(0, 0)),
		of(1, ref(0, 1), scalar(6), ref(1, 1), scalar(math.Float64bits(1.5)), scalar(math.Float64bits(-2))),
		of(1, api.Val{}, scalar(api.NaN), ref(2, 2), scalar(1<<63), scalar(9)),
	}
}

// values are those that may be, and those that may not, with numbers around those of some frames.
func values() []api.Val {
	l := []api.Val{{}, scalar(0), scalar(1), scalar(1 << 63), scalar(api.NaN), scalar(0x7FF0000000000001), scalar(math.MaxUint64), {Bits: 1}, {Depth: 1}, {Slot: 1}, {Slot: -1}, {Depth: -1}, {Kind: 3}, {Kind: 255}, {Kind: 4, Bits: 9}, {Kind: 1, Depth: 1}, {Kind: 1, Slot: 1}, {Kind: 1, Bits: 5, Slot: -1}, {Kind: 1, Bits: 5, Depth: -1}, {Kind: 2, Bits: 1}, {Kind: 2, Bits: math.MaxUint64, Depth: 1}}
	for _, depth := range numbers() {
		for _, slot := range numbers() {
			l = append(l, ref(depth, slot))
		}
	}
	return l
}

// numbers are those around depths and slots of some frames, and both ends of an int.
func numbers() []int {
	return []int{math.MinInt, -1 << 32, -1, 0, 1, 2, 3, 4, 5, 6, 1 << 32, math.MaxInt}
}

// TestExample is the chapter's, and the document's.
func TestExample(t *testing.T) {
	x := table(t, some()...)
	one := []api.AFrame{of(0, scalar(5), api.Val{})}
	if l, e := model.Return(x, one); e != api.ErrBottom || !alike(l, one) {
		t.Errorf("P19.1: a row of one frame that returns: %v, %v", l, e)
	}
	if _, e := model.Set(x, one, 0, 0, api.Val{}); e != api.ErrKind {
		t.Errorf("P19.1: nothing set to a scalar slot: %v", e)
	}
	two := []api.AFrame{of(0, scalar(math.Float64bits(1)), ref(0, 0)), of(3, ref(0, 0))}
	if v, e := model.Load(x, two, 1, 0); e != api.OK || v != scalar(0x3FF0000000000000) {
		t.Errorf("P19.1: a load: %v, %v", v, e)
	}
	// 1 divided by -0, and NaN held against itself.
	l, e := model.Calc(x, []api.AFrame{of(1, api.Val{}, scalar(0), api.Val{}, scalar(math.Float64bits(1)), scalar(1<<63))}, api.OpDiv, 0, 1, 3, 4)
	if v, _ := model.Get(x, l, 0, 1); e != api.OK || v != scalar(0xFFF0000000000000) {
		t.Errorf("P19.1: 1 divided by -0: %v, %v", v, e)
	}
	l, e = model.Calc(x, []api.AFrame{of(4, scalar(api.NaN))}, api.OpSame, 0, 0, 0, 0)
	if v, _ := model.Get(x, l, 0, 0); e != api.OK || v != scalar(0) {
		t.Errorf("P19.1: NaN and itself: %v, %v", v, e)
	}
}

func TestRightTable(t *testing.T) {
	x := table(t, some()...)
	none := api.Val{}
	for k, c := range []struct {
		l     []api.AFrame
		right bool
		words int
	}{
		{nil, true, 0}, {[]api.AFrame{}, true, 0},
		{[]api.AFrame{of(2)}, true, 2}, {[]api.AFrame{{Fn: 2, Slots: []api.Val{}}}, true, 2}, {[]api.AFrame{of(2), of(2), of(2)}, true, 6},
		{[]api.AFrame{of(0, scalar(5), none)}, true, 4}, {[]api.AFrame{of(4, scalar(0))}, true, 3}, {[]api.AFrame{of(3, none)}, true, 3}, {three(), true, 18},
		// A reference to itself, to its own frame, to one below.
		{[]api.AFrame{of(3, ref(0, 0))}, true, 3}, {[]api.AFrame{of(0, scalar(5), ref(0, 0))}, true, 4}, {[]api.AFrame{of(3, none), of(3, ref(0, 0)), of(2), of(3, ref(3, 0)), of(3, ref(1, 0))}, true, 14},
		// The function isn't there.
		{[]api.AFrame{of(5)}, false, 0}, {[]api.AFrame{of(-1)}, false, 0}, {[]api.AFrame{of(math.MinInt)}, false, 0}, {[]api.AFrame{of(math.MaxInt)}, false, 0}, {[]api.AFrame{of(2), of(5)}, false, 0}, {[]api.AFrame{of(5), of(2)}, false, 0}, {[]api.AFrame{of(5, scalar(1))}, false, 0},
		// It has fewer slots, or more.
		{[]api.AFrame{of(0)}, false, 0}, {[]api.AFrame{of(0, scalar(5))}, false, 0}, {[]api.AFrame{of(0, scalar(5), none, none)}, false, 0}, {[]api.AFrame{of(0, scalar(5), none, scalar(0))}, false, 0}, {[]api.AFrame{of(2, none)}, false, 0}, {[]api.AFrame{of(2, scalar(0))}, false, 0}, {[]api.AFrame{of(2), of(3), of(2)}, false, 0},
		// What it has may not be.
		{[]api.AFrame{of(3, api.Val{Bits: 1})}, false, 0}, {[]api.AFrame{of(3, api.Val{Depth: 1})}, false, 0}, {[]api.AFrame{of(3, api.Val{Kind: 3})}, false, 0}, {[]api.AFrame{of(4, api.Val{Kind: 1, Slot: 1})}, false, 0}, {[]api.AFrame{of(4, api.Val{Kind: 255})}, false, 0}, {[]api.AFrame{of(3, api.Val{Kind: 2, Bits: 1})}, false, 0}, {[]api.AFrame{of(3, ref(0, -1))}, false, 0}, {[]api.AFrame{of(3, ref(-1, 0))}, false, 0},
		// It is of the other kind.
		{[]api.AFrame{of(3, scalar(0))}, false, 0}, {[]api.AFrame{of(4, none)}, false, 0}, {[]api.AFrame{of(4, ref(0, 0))}, false, 0}, {[]api.AFrame{of(0, none, none)}, false, 0}, {[]api.AFrame{of(0, scalar(5), scalar(5))}, false, 0},
		// No slot is referred to, or one that is nearer to the top.
		{[]api.AFrame{of(3, ref(0, 1))}, false, 0}, {[]api.AFrame{of(3, ref(1, 0))}, false, 0}, {[]api.AFrame{of(3, ref(math.MaxInt, 0))}, false, 0}, {[]api.AFrame{of(3, ref(0, math.MaxInt))}, false, 0}, {[]api.AFrame{of(2), of(3, ref(0, 0))}, false, 0}, {[]api.AFrame{of(4, scalar(0)), of(3, ref(0, 1))}, false, 0}, {[]api.AFrame{of(3, ref(1, 0)), of(3, none)}, false, 0}, {[]api.AFrame{of(3, ref(1, 0)), of(4, scalar(0))}, false, 0},
		// The last one alone isn't right.
		{append(three(), of(3, scalar(0))), false, 0}, {append(three(), of(3, ref(3, 1))), false, 0}, {append(three(), of(3, ref(4, 0))), false, 0},
	} {
		if right, n := model.Right(x, c.l), model.Words(x, c.l); right != c.right || n != c.words {
			t.Errorf("P19.1: %d: %v: Right %v, Words %d", k, c.l, right, n)
		}
		holdRow(t, x, some(), c.l)
	}
}

// TestRightOfEach has each value at each place of a right row, each function of each of its frames, and slots that go or come.
func TestRightOfEach(t *testing.T) {
	x := table(t, some()...)
	for depth := range three() {
		for slot := range three()[depth].Slots {
			for _, v := range values() {
				l := three()
				l[depth].Slots[slot] = v
				holdRow(t, x, some(), l)
			}
			l := three()
			l[depth].Slots = slices.Delete(l[depth].Slots, slot, slot+1)
			holdRow(t, x, some(), l)
			for _, v := range []api.Val{{}, scalar(7), ref(0, 0)} {
				l := three()
				l[depth].Slots = slices.Insert(l[depth].Slots, slot, v)
				holdRow(t, x, some(), l)
			}
		}
		for _, f := range numbers() {
			l := three()
			l[depth].Fn = f
			holdRow(t, x, some(), l)
		}
		holdRow(t, x, some(), slices.Delete(three(), depth, depth+1))
	}
}

func TestSetTable(t *testing.T) {
	x := table(t, some()...)
	for _, c := range []struct {
		depth, slot int
		v           api.Val
		e           api.Errno
	}{
		{0, 0, scalar(7), api.OK}, {0, 0, scalar(0x7FF0000000000001), api.OK}, {0, 1, ref(0, 0), api.OK}, {0, 1, ref(0, 1), api.OK}, {0, 1, api.Val{}, api.OK}, {2, 2, ref(1, 4), api.OK}, {2, 0, ref(2, 0), api.OK}, {2, 0, ref(0, 1), api.OK},
		{-1, 0, scalar(7), api.ErrRange}, {3, 0, scalar(7), api.ErrRange}, {0, 2, scalar(7), api.ErrRange}, {0, -1, scalar(7), api.ErrRange}, {2, 5, scalar(7), api.ErrRange}, {math.MinInt, 0, scalar(7), api.ErrRange}, {math.MaxInt, 0, scalar(7), api.ErrRange}, {0, math.MaxInt, scalar(7), api.ErrRange}, {0, math.MinInt, scalar(7), api.ErrRange},
		{0, 0, api.Val{Kind: 7}, api.ErrArg}, {0, 0, api.Val{Kind: 1, Depth: 1}, api.ErrArg}, {0, 1, api.Val{Bits: 1}, api.ErrArg}, {0, 1, ref(-1, 0), api.ErrArg}, {0, 1, ref(0, -1), api.ErrArg}, {0, 1, api.Val{Kind: 2, Bits: 1}, api.ErrArg},
		{0, 0, api.Val{}, api.ErrKind}, {0, 0, ref(0, 0), api.ErrKind}, {0, 1, scalar(0), api.ErrKind}, {1, 2, scalar(1), api.ErrKind},
		{0, 1, ref(0, 2), api.ErrRange}, {0, 1, ref(3, 0), api.ErrRange}, {0, 1, ref(math.MaxInt, 0), api.ErrRange}, {2, 0, ref(2, 5), api.ErrRange},
		{0, 1, ref(1, 0), api.ErrDepth}, {0, 1, ref(2, 4), api.ErrDepth}, {1, 0, ref(2, 0), api.ErrDepth},
		// Of two errors the one that is named first.
		{0, 2, api.Val{Kind: 7}, api.ErrRange}, {3, 0, ref(9, 9), api.ErrRange}, {0, 0, ref(-1, 0), api.ErrArg}, {0, 1, api.Val{Kind: 1, Slot: 1}, api.ErrArg}, {0, 0, ref(9, 9), api.ErrKind}, {0, 0, ref(1, 0), api.ErrKind}, {0, 1, ref(1, 5), api.ErrRange}, {1, 0, ref(3, 0), api.ErrRange},
	} {
		l, e := model.Set(x, three(), c.depth, c.slot, c.v)
		want := three()
		if c.e == api.OK {
			want[c.depth].Slots[c.slot] = c.v
		}
		if e != c.e || !alike(l, want) {
			t.Errorf("P19.1: Set(%d, %d, %v) = %v, %v, not %v", c.depth, c.slot, c.v, l, e, c.e)
		}
	}
}

func TestGetLoadWriteTable(t *testing.T) {
	x := table(t, some()...)
	none := api.Val{}
	for _, c := range []struct {
		depth, slot     int
		has             api.Val
		get             api.Errno
		loaded          api.Val
		load, write     api.Errno
		toDepth, toSlot int
	}{
		// A scalar; a reference to a scalar; to a reference; to itself; nothing.
		{0, 0, scalar(5), api.OK, none, api.ErrKind, api.ErrKind, 0, 0},
		{0, 1, ref(0, 0), api.OK, scalar(5), api.OK, api.OK, 0, 0},
		{1, 2, ref(1, 1), api.OK, scalar(6), api.OK, api.OK, 1, 1},
		{1, 0, ref(0, 1), api.OK, ref(0, 0), api.OK, api.ErrKind, 0, 0},
		{2, 2, ref(2, 2), api.OK, ref(2, 2), api.OK, api.ErrKind, 0, 0},
		{2, 0, none, api.OK, none, api.ErrNil, api.ErrNil, 0, 0},
		{2, 1, scalar(api.NaN), api.OK, none, api.ErrKind, api.ErrKind, 0, 0},
		{0, 2, none, api.ErrRange, none, api.ErrRange, api.ErrRange, 0, 0},
		{0, -1, none, api.ErrRange, none, api.ErrRange, api.ErrRange, 0, 0},
		{-1, 0, none, api.ErrRange, none, api.ErrRange, api.ErrRange, 0, 0},
		{3, 0, none, api.ErrRange, none, api.ErrRange, api.ErrRange, 0, 0},
		{math.MaxInt, math.MaxInt, none, api.ErrRange, none, api.ErrRange, api.ErrRange, 0, 0},
		{math.MinInt, math.MinInt, none, api.ErrRange, none, api.ErrRange, api.ErrRange, 0, 0},
	} {
		if v, e := model.Get(x, three(), c.depth, c.slot); v != c.has || e != c.get {
			t.Errorf("P19.1: Get(%d, %d) = %v, %v", c.depth, c.slot, v, e)
		}
		if v, e := model.Load(x, three(), c.depth, c.slot); v != c.loaded || e != c.load {
			t.Errorf("P19.1: Load(%d, %d) = %v, %v", c.depth, c.slot, v, e)
		}
		want := three()
		if c.write == api.OK {
			want[c.toDepth].Slots[c.toSlot] = scalar(77)
		}
		if l, e := model.Write(x, three(), c.depth, c.slot, 77); e != c.write || !alike(l, want) {
			t.Errorf("P19.1: Write(%d, %d) = %v, %v", c.depth, c.slot, l, e)
		}
	}
}

func TestCalcTable(t *testing.T) {
	x := table(t, some()...)
	bits := math.Float64bits
	for _, c := range []struct {
		op    uint8
		depth int
		slots []int
		to    uint64
		e     api.Errno
	}{
		{api.OpAdd, 1, []int{1, 3, 4}, bits(-0.5), api.OK}, {api.OpSub, 1, []int{1, 3, 4}, bits(3.5), api.OK}, {api.OpSub, 1, []int{1, 4, 3}, bits(-3.5), api.OK}, {api.OpMul, 1, []int{1, 3, 4}, bits(-3), api.OK}, {api.OpDiv, 1, []int{1, 3, 4}, bits(-0.75), api.OK}, {api.OpLess, 1, []int{1, 3, 4}, 0, api.OK}, {api.OpLess, 1, []int{1, 4, 3}, bits(1), api.OK}, {api.OpSame, 1, []int{1, 3, 3}, bits(1), api.OK}, {api.OpMin, 1, []int{1, 3, 4}, bits(-2), api.OK}, {api.OpMax, 1, []int{1, 3, 4}, bits(1.5), api.OK}, {api.OpNeg, 1, []int{1, 3, 4}, bits(-1.5), api.OK}, {api.OpNeg, 1, []int{1, 4, 3}, bits(2), api.OK}, {api.OpRoot, 1, []int{1, 4, 3}, api.NaN, api.OK},
		// One slot may be told more than once.
		{api.OpMul, 1, []int{3, 3, 3}, bits(2.25), api.OK}, {api.OpSub, 1, []int{3, 4, 3}, bits(-3.5), api.OK}, {api.OpSub, 1, []int{4, 4, 3}, bits(-3.5), api.OK}, {api.OpDiv, 2, []int{3, 3, 3}, api.NaN, api.OK},
		{0, 1, []int{1, 3, 4}, 0, api.ErrArg}, {11, 1, []int{1, 3, 4}, 0, api.ErrArg}, {255, 1, []int{1, 3, 4}, 0, api.ErrArg}, {1, 1, nil, 0, api.ErrArg}, {1, 1, []int{1}, 0, api.ErrArg}, {1, 1, []int{1, 3}, 0, api.ErrArg}, {1, 1, []int{1, 3, 4, 1}, 0, api.ErrArg},
		{1, 1, []int{5, 3, 4}, 0, api.ErrRange}, {1, 1, []int{1, 5, 4}, 0, api.ErrRange}, {1, 1, []int{1, 3, 5}, 0, api.ErrRange}, {1, 1, []int{-1, 3, 4}, 0, api.ErrRange}, {1, 1, []int{1, 3, math.MinInt}, 0, api.ErrRange}, {1, 1, []int{1, math.MaxInt, 4}, 0, api.ErrRange}, {1, 3, []int{1, 3, 4}, 0, api.ErrRange}, {1, -1, []int{1, 3, 4}, 0, api.ErrRange}, {1, math.MaxInt, []int{0, 0, 0}, 0, api.ErrRange}, {1, 0, []int{0, 0, 2}, 0, api.ErrRange},
		{1, 1, []int{0, 3, 4}, 0, api.ErrKind}, {1, 1, []int{1, 0, 4}, 0, api.ErrKind}, {1, 1, []int{1, 3, 2}, 0, api.ErrKind}, {api.OpNeg, 1, []int{1, 3, 2}, 0, api.ErrKind},
		// Of two errors the one that is named first.
		{11, 3, []int{0, 0, 0}, 0, api.ErrArg}, {1, 9, []int{0, 0}, 0, api.ErrArg}, {0, 1, []int{0, 0, 0}, 0, api.ErrArg}, {1, 1, []int{0, 2, 5}, 0, api.ErrRange}, {1, 1, []int{0, -1, 3}, 0, api.ErrRange}, {1, 1, []int{5, 0, 2}, 0, api.ErrRange},
	} {
		l, e := model.Calc(x, three(), c.op, c.depth, c.slots...)
		want := three()
		if c.e == api.OK {
			want[c.depth].Slots[c.slots[0]] = scalar(c.to)
		}
		if e != c.e || !alike(l, want) {
			t.Errorf("P19.1: Calc(%d, %d, %v) = %v, %v, not %x, %v", c.op, c.depth, c.slots, l, e, c.to, c.e)
		}
	}
}

// TestCalcOfEach has each operation of each two of some bits, that stand apart, or in the slot that it comes to.
func TestCalcOfEach(t *testing.T) {
	f := []fn{{false, false, false}}
	x := table(t, f...)
	var all []uint64
	for _, b := range []uint64{0, 1, 0x000FFFFFFFFFFFFF, 0x0010000000000000, 0x3FF0000000000000, 0x4000000000000000, 0x4008000000000001, 0x7FEFFFFFFFFFFFFF, 0x7FF0000000000000, 0x7FF0000000000001, 0x7FF8000000000000, 0x7FF8000000000001, 0x7FFFFFFFFFFFFFFF} {
		all = append(all, b, b|1<<63)
	}
	for op := range uint8(12) {
		for _, a := range all {
			for _, b := range all {
				l := []api.AFrame{of(0, scalar(99), scalar(a), scalar(b))}
				for _, slots := range [][]int{{0, 1, 2}, {1, 1, 2}, {2, 1, 2}, {0, 2, 2}} {
					hold(t, x, f, l, ask{kind: calculates, op: op, slots: slots})
				}
			}
		}
	}
	for op := 11; op < 256; op++ {
		hold(t, x, f, []api.AFrame{of(0, scalar(99), scalar(1), scalar(2))}, ask{kind: calculates, op: uint8(op), slots: []int{0, 1, 2}})
	}
}

// asks are all calls with depths and slots around a row's frames, and all these values.
func asks(depths, wide, f int, l []api.Val) []ask {
	all := []ask{{kind: returns}}
	for n := -1; n <= f; n++ {
		all = append(all, ask{kind: calls, f: n})
	}
	for depth := -1; depth <= depths; depth++ {
		for slot := -1; slot <= wide; slot++ {
			for kind := gets; kind <= writes; kind++ {
				all = append(all, ask{kind: kind, depth: depth, slot: slot, v: scalar(0x7FF0000000000123)})
			}
			for _, v := range l {
				all = append(all, ask{kind: sets, depth: depth, slot: slot, v: v})
			}
			for other := -1; other <= wide; other++ {
				all = append(all, ask{kind: calculates, op: api.OpSub, depth: depth, slots: []int{slot, other, 0}}, ask{kind: calculates, op: api.OpAdd, depth: depth, slots: []int{0, slot, other}})
			}
		}
	}
	return all
}

// TestOfEachNumber has each number at each place of the calls, of a right row, and each value.
func TestOfEachNumber(t *testing.T) {
	f := some()
	x := table(t, f...)
	for _, n := range numbers() {
		hold(t, x, f, three(), ask{kind: calls, f: n})
		for _, m := range numbers() {
			for kind := range kinds {
				hold(t, x, f, three(), ask{kind: kind, f: n, depth: n, slot: m, v: scalar(8), op: 3, slots: []int{m, m, m}})
			}
			for i := range 3 {
				named := []int{1, 3, 4}
				named[i] = m
				hold(t, x, f, three(), ask{kind: calculates, depth: n, op: 3, slots: named})
			}
		}
	}
	for _, a := range asks(3, 6, 5, values()) {
		hold(t, x, f, three(), a)
	}
}

// rows are all right rows of at most so many frames: in pointer slots stands all that may.
func rows(f []fn, frames int) [][]api.AFrame {
	all := [][]api.AFrame{nil}
	for from := 0; frames > 0; frames-- {
		upTo := len(all)
		for ; from < upTo; from++ {
			for n := range f {
				all = append(all, filled(f, called(f, cloned(all[from]), n).l, 0)...)
			}
		}
	}
	return all
}

// filled are all rows that differ from one in what the last frame's slots have, from one of them on.
func filled(f []fn, l []api.AFrame, slot int) [][]api.AFrame {
	last := len(l) - 1
	if slot == len(l[last].Slots) {
		return [][]api.AFrame{l}
	}
	all, _ := places(f, l)
	vals := []api.Val{scalar(math.Float64bits(float64(10*last + slot + 1)))}
	if f[l[last].Fn][slot] {
		vals = []api.Val{{}}
		for _, p := range all {
			vals = append(vals, ref(p.depth, p.slot))
		}
	}
	var out [][]api.AFrame
	for _, v := range vals {
		one := cloned(l)
		one[last].Slots[slot] = v
		out = append(out, filled(f, one, slot+1)...)
	}
	return out
}

// TestSmallRows has all small right rows, and all calls of them.
func TestSmallRows(t *testing.T) {
	f := []fn{{}, {true}, {true, false}}
	x := table(t, f...)
	vals := []api.Val{{}, scalar(3), {Kind: 3}, {Kind: 2, Bits: 1}}
	for depth := range 4 {
		vals = append(vals, ref(depth, 0), ref(depth, 1), ref(depth, 2))
	}
	met := map[api.Errno]int{}
	all := rows(f, 3)
	for _, l := range all {
		holdRow(t, x, f, l)
		for _, a := range asks(len(l), 2, len(f), vals) {
			met[hold(t, x, f, l, a).e]++
		}
	}
	if len(all) < 500 {
		t.Errorf("%d rows", len(all))
	}
	for _, e := range []api.Errno{api.OK, api.ErrArg, api.ErrRange, api.ErrKind, api.ErrDepth, api.ErrBottom, api.ErrNil} {
		if met[e] == 0 {
			t.Errorf("no small row answers %v", e)
		}
	}
}

// TestNotRight has rows that aren't right in all ways: all calls answer ErrState, whatever else is wrong, and the row as it was.
func TestNotRight(t *testing.T) {
	f := some()
	x := table(t, f...)
	bad := [][]api.AFrame{{of(5)}, {of(-1)}, {of(0)}, {of(2, scalar(1))}, {of(2), of(2), of(2, api.Val{})}, {of(math.MinInt, scalar(1), ref(-1, math.MinInt))}}
	for depth, x := range three() {
		for slot := range x.Slots {
			for _, v := range []api.Val{{Kind: 3}, {Bits: 1}, {Kind: 1, Depth: -1}, ref(-1, 0), ref(2, 5), ref(3, 0), ref(math.MaxInt, math.MaxInt)} {
				l := three()
				l[depth].Slots[slot] = v
				bad = append(bad, l)
			}
		}
	}
	swapped := three()
	slices.Reverse(swapped)
	bad = append(bad, swapped)
	for _, l := range bad {
		holdRow(t, x, f, l)
		for _, a := range asks(len(l), 5, 5, []api.Val{{}, scalar(1), ref(0, 0), {Kind: 7}}) {
			if e := hold(t, x, f, l, a).e; e != api.ErrState {
				t.Fatalf("P19.1: %+v of %v: %v", a, l, e)
			}
		}
	}
}

// TestNoFrames has rows without frames, nil and empty, of a table and of a nil one.
func TestNoFrames(t *testing.T) {
	for _, x := range []*fns.Table{nil, table(t, some()...)} {
		var f []fn
		if x != nil {
			f = some()
		}
		for _, l := range [][]api.AFrame{nil, {}} {
			if !model.Right(x, l) || model.Words(x, l) != 0 {
				t.Errorf("P19.1: a row without frames: Right %v, Words %d", model.Right(x, l), model.Words(x, l))
			}
			for _, a := range asks(1, 1, 6, values()) {
				hold(t, x, f, l, a)
			}
		}
	}
	if !model.Same(nil, []api.AFrame{}) || !model.Same([]api.AFrame{}, nil) || model.Same(nil, []api.AFrame{{}}) || model.Same([]api.AFrame{{}}, nil) {
		t.Error("P0.5: Same of rows without frames")
	}
}

// TestNilTable has rows with frames, of which none is right without functions.
func TestNilTable(t *testing.T) {
	for _, l := range [][]api.AFrame{{of(0)}, {of(2)}, {of(-1)}, three()} {
		holdRow(t, nil, nil, l)
		for _, a := range asks(1, 1, 1, []api.Val{{}, scalar(1), {Kind: 7}}) {
			if e := hold(t, nil, nil, l, a).e; e != api.ErrState {
				t.Fatalf("P19.1: %+v of %v and a nil table: %v", a, l, e)
			}
		}
	}
}

// TestLongRows has long rows of calls, each of what the one before it answered.
func TestLongRows(t *testing.T) {
	f := some()
	x := table(t, f...)
	met := map[[2]int]int{}
	for start := range 60 {
		r := rule(start)
		var l []api.AFrame
		for range 500 {
			a := random(&r, f, len(l))
			// As many frames are called as return, but when there are few.
			if len(l) < 4 && r.below(3) == 0 {
				a = ask{kind: calls, f: r.below(len(f))}
			}
			o := hold(t, x, f, l, a)
			met[[2]int{a.kind, int(o.e)}]++
			if o.e == api.OK && a.kind != gets && a.kind != loads {
				l = o.l
			}
			if !model.Right(x, l) || model.Words(x, l) != words(f, l) {
				t.Fatalf("P19.2: behind %+v: %v", a, l)
			}
		}
	}
	for kind, all := range [kinds][]api.Errno{calls: {api.OK, api.ErrArg}, returns: {api.OK, api.ErrBottom}, sets: {api.OK, api.ErrRange, api.ErrArg, api.ErrKind, api.ErrDepth}, gets: {api.OK, api.ErrRange}, loads: {api.OK, api.ErrRange, api.ErrKind, api.ErrNil}, writes: {api.OK, api.ErrRange, api.ErrKind, api.ErrNil}, calculates: {api.OK, api.ErrArg, api.ErrRange, api.ErrKind}} {
		for _, e := range all {
			if met[[2]int{kind, int(e)}] < 5 {
				t.Errorf("the call %d answers %v %d times", kind, e, met[[2]int{kind, int(e)}])
			}
		}
	}
}

// random is a call with numbers around those of a row of so many frames.
func random(r *rule, f []fn, frames int) ask {
	a := ask{kind: r.below(kinds), f: r.below(len(f)+2) - 1, depth: r.below(frames+1) - r.below(50)/49, slot: r.below(6) - r.below(20)/19, op: uint8(r.below(12))}
	switch r.below(8) {
	case 0:
		a.v = api.Val{}
	case 1, 2, 3:
		a.v = scalar(r.next())
	case 4:
		a.v = api.Val{Kind: uint8(r.below(4)), Depth: r.below(3) - 1, Slot: r.below(3) - 1}
	default:
		a.v = ref(r.below(frames+1), r.below(6))
	}
	for range 3 + r.below(20)/19 {
		a.slots = append(a.slots, r.below(6))
	}
	return a
}

// TestBitsStay has floats' bits, of each class, set and got, loaded and written, as they are: no NaN becomes another one.
func TestBitsStay(t *testing.T) {
	f := []fn{{false, true, false}}
	x := table(t, f...)
	r := rule(11)
	all := []uint64{0, 1, 1 << 63, 0x7FF0000000000000, 0x7FF0000000000001, 0xFFF0000000000001, 0x7FF7FFFFFFFFFFFF, 0x7FF8000000000000, 0xFFF8000000000000, 0x7FFFFFFFFFFFFFFF, math.MaxUint64, 0x000FFFFFFFFFFFFF}
	for range 500 {
		all = append(all, r.next(), r.next()|0x7FF0000000000000)
	}
	for _, b := range all {
		l, e := model.Set(x, []api.AFrame{of(0, scalar(7), ref(0, 0), scalar(8))}, 0, 2, scalar(b))
		v, g := model.Get(x, l, 0, 2)
		if e != api.OK || g != api.OK || v != scalar(b) {
			t.Fatalf("P19.1: %x is set, %v is got: %v, %v", b, v, e, g)
		}
		l, e = model.Write(x, l, 0, 1, b)
		v, g = model.Load(x, l, 0, 1)
		if e != api.OK || g != api.OK || v != scalar(b) || !alike(l, []api.AFrame{of(0, scalar(b), ref(0, 0), scalar(b))}) {
			t.Fatalf("P19.1: %x is written, %v is loaded: %v, %v", b, v, e, g)
		}
		l, e = model.Call(x, l, 0)
		if e != api.OK || !alike(l, []api.AFrame{of(0, scalar(b), ref(0, 0), scalar(b)), of(0, scalar(0), api.Val{}, scalar(0))}) {
			t.Fatalf("P19.1: a call behind %x: %v, %v", b, l, e)
		}
	}
}

// TestSame has rows that differ at one place alone, whether they are right or not.
func TestSame(t *testing.T) {
	hold := func(a, b []api.AFrame) {
		t.Helper()
		inA, inB := cloned(a), cloned(b)
		if got, want := model.Same(inA, inB), alike(a, b); got != want || model.Same(inB, inA) != want || !alike(inA, a) || !alike(inB, b) {
			t.Fatalf("P19.1: Same(%v, %v) = %v", a, b, got)
		}
	}
	a := append(three(), of(-5, api.Val{Kind: 9, Bits: 4, Depth: -1, Slot: -2}), api.AFrame{Fn: 2})
	hold(a, a)
	hold(nil, a)
	for depth, x := range a {
		hold(a, a[:depth])
		hold(a, a[depth:])
		hold(a, slices.Insert(cloned(a), depth, x))
		for _, f := range []int{math.MinInt, -5, 0, 1, 2, math.MaxInt} {
			b := cloned(a)
			b[depth].Fn = f
			hold(a, b)
		}
		more := cloned(a)
		more[depth].Slots = append(more[depth].Slots, api.Val{})
		hold(a, more)
		for slot, v := range x.Slots {
			for _, w := range []api.Val{{Kind: v.Kind + 1, Bits: v.Bits, Depth: v.Depth, Slot: v.Slot}, {Kind: v.Kind, Bits: v.Bits ^ 1<<63, Depth: v.Depth, Slot: v.Slot}, {Kind: v.Kind, Bits: v.Bits, Depth: v.Depth - 1, Slot: v.Slot}, {Kind: v.Kind, Bits: v.Bits, Depth: v.Depth, Slot: v.Slot + 1}, v} {
				b := cloned(a)
				b[depth].Slots[slot] = w
				hold(a, b)
			}
			fewer := cloned(a)
			fewer[depth].Slots = fewer[depth].Slots[:slot]
			hold(a, fewer)
		}
	}
	// -0 and 0, and NaNs: bits are held against each other, no floats.
	zero, below, nan := []api.AFrame{of(4, scalar(0))}, []api.AFrame{of(4, scalar(1<<63))}, []api.AFrame{of(4, scalar(api.NaN))}
	if model.Same(zero, below) || !model.Same(nan, cloned(nan)) {
		t.Error("P19.1: Same of zeros, or of NaNs")
	}
	if !model.Same([]api.AFrame{{Fn: 2}}, []api.AFrame{{Fn: 2, Slots: []api.Val{}}}) {
		t.Error("P0.5: Same of no slots, nil and empty")
	}
}

// TestSharedSlots has frames that share their slots, as they are handed in: only the one that is meant changes in the answer.
func TestSharedSlots(t *testing.T) {
	f := []fn{{false, true}}
	x := table(t, f...)
	vals := []api.Val{scalar(4), ref(0, 0)}
	l := []api.AFrame{{Fn: 0, Slots: vals}, {Fn: 0, Slots: vals}, {Fn: 0, Slots: vals}}
	for _, a := range []ask{{kind: sets, depth: 1, slot: 0, v: scalar(9)}, {kind: sets, depth: 2, slot: 1}, {kind: sets, depth: 0, slot: 0, v: api.Val{}}, {kind: writes, depth: 2, slot: 1, v: scalar(9)}, {kind: calculates, op: 1, depth: 1, slots: []int{0, 0, 0}}, {kind: calls}, {kind: returns}, {kind: calls, f: 1}} {
		got, want := do(x, l, a), should(f, l, a)
		if got.e != want.e || !alike(got.l, want.l) {
			t.Errorf("P19.1: %+v of frames that share slots: %v, not %v", a, got, want)
		}
		spread(got.l, 50)
		if !isSpread(got.l, 50) || vals[0] != scalar(4) || vals[1] != ref(0, 0) {
			t.Errorf("P0.4: %+v answers frames that share slots", a)
		}
	}
}

// TestRoomBehindTheEnd has rows, slots and lists with room behind their ends: it stays as it is.
func TestRoomBehindTheEnd(t *testing.T) {
	f := some()
	x := table(t, f...)
	for _, a := range append(asks(3, 5, 5, []api.Val{{}, scalar(1), ref(0, 0), ref(1, 1), {Kind: 7}}), ask{kind: calculates, op: 2, depth: 1, slots: []int{1, 3, 4}}) {
		whole := append(three(), of(2), of(7, scalar(3)))
		for depth := range 3 {
			whole[depth].Slots = append(whole[depth].Slots, scalar(70), scalar(71))[:len(whole[depth].Slots)]
		}
		named := append(slices.Clone(a.slots), 8, 9)
		a.slots = named[:len(named)-2]
		kept := append(three(), of(2), of(7, scalar(3)))
		got, want := do(x, whole[:3], a), should(f, three(), a)
		if got.e != want.e || got.v != want.v || !alike(got.l, want.l) {
			t.Fatalf("P19.1: %+v with room behind the end: %v, not %v", a, got, want)
		}
		spread(got.l, 900)
		for depth := range 3 {
			n := len(kept[depth].Slots)
			if !slices.Equal(whole[depth].Slots[:n+2][n:], []api.Val{scalar(70), scalar(71)}) {
				t.Fatalf("P0.4: %+v writes behind the slots' end", a)
			}
		}
		if !alike(whole, kept) || named[len(named)-2] != 8 || named[len(named)-1] != 9 {
			t.Fatalf("P0.4: %+v makes %v, %v of what is handed in", a, whole, named)
		}
	}
}

// TestNothingIsKept has a row that is written into behind a call: what was answered stays.
func TestNothingIsKept(t *testing.T) {
	f := some()
	x := table(t, f...)
	for _, a := range asks(3, 5, 5, []api.Val{{}, scalar(1), ref(0, 0), {Kind: 7}}) {
		l := three()
		got := do(x, l, a)
		kept := cloned(got.l)
		spread(l, 300)
		if !alike(got.l, kept) {
			t.Fatalf("P0.4: %+v keeps what is handed in", a)
		}
		if again := do(x, three(), a); again.e != got.e || again.v != got.v || !alike(again.l, kept) {
			t.Fatalf("P0.6: %+v, once more: %v, not %v", a, again, got)
		}
	}
}

// TestGreat has a table of as many functions as there may be, with as many slots, and a row of all of them.
func TestGreat(t *testing.T) {
	f := make([]fn, api.MaxFns)
	for n := range f {
		f[n] = make(fn, 10*n)
		for slot := range f[n] {
			f[n][slot] = slot%3 == n%3
		}
	}
	f[99] = append(f[99], make(fn, api.MaxSlots-len(f[99]))...)
	x := table(t, f...)
	var l []api.AFrame
	sum := 0
	for n := range f {
		var e api.Errno
		want := called(f, cloned(l), n).l
		if l, e = model.Call(x, l, n); e != api.OK || !alike(l, want) {
			t.Fatalf("P19.1: Call of the function %d: %v", n, e)
		}
		sum += 2 + len(f[n])
		if model.Words(x, l) != sum || !model.Right(x, l) {
			t.Fatalf("P19.1: Words of %d frames: %d, not %d", len(l), model.Words(x, l), sum)
		}
	}
	last := len(l) - 1
	l, e := model.Set(x, l, last, 0, ref(98, 979))
	if v, g := model.Load(x, l, last, 0); e != api.OK || g != api.OK || v != scalar(0) {
		t.Errorf("P19.1: Load of the last slot of the frame below: %v, %v, %v", v, e, g)
	}
	l, e = model.Write(x, l, last, 0, 12)
	if v, g := model.Get(x, l, 98, 979); e != api.OK || g != api.OK || v != scalar(12) {
		t.Errorf("P19.1: Write of it: %v, %v, %v", v, e, g)
	}
	l, e = model.Set(x, l, last, api.MaxSlots-1, scalar(3))
	if e != api.OK || l[last].Slots[api.MaxSlots-1] != scalar(3) {
		t.Errorf("P19.1: Set of the last slot of all: %v", e)
	}
	if _, e = model.Set(x, l, last, api.MaxSlots, scalar(3)); e != api.ErrRange {
		t.Errorf("P19.1: Set of the slot behind the last one: %v", e)
	}
	for len(l) > 1 {
		want := cloned(l[:len(l)-1])
		if l, e = model.Return(x, l); e != api.OK || !alike(l, want) {
			t.Fatalf("P19.1: Return of %d frames: %v", len(want)+1, e)
		}
	}
}

// TestDeep has a row of very many frames, the last of which refers to the bottom one.
func TestDeep(t *testing.T) {
	f := []fn{{false}, {true}}
	x := table(t, f...)
	l := []api.AFrame{of(0, scalar(1))}
	for depth := 1; depth < 1<<16; depth++ {
		l = append(l, of(1, ref(depth-1, 0)))
	}
	l[len(l)-1].Slots[0] = ref(0, 0)
	top := len(l) - 1
	if !model.Right(x, l) || model.Words(x, l) != 3<<16 {
		t.Errorf("P19.1: many frames: Right %v, Words %d", model.Right(x, l), model.Words(x, l))
	}
	m, e := model.Write(x, l, top, 0, 9)
	if e != api.OK || m[0].Slots[0] != scalar(9) || l[0].Slots[0] != scalar(1) {
		t.Errorf("P19.1: Write from the top one to the bottom one: %v", e)
	}
	if v, e := model.Load(x, m, top, 0); e != api.OK || v != scalar(9) {
		t.Errorf("P19.1: Load of it: %v, %v", v, e)
	}
	if v, e := model.Load(x, l, top-1, 0); e != api.OK || v != ref(top-3, 0) {
		t.Errorf("P19.1: Load of the one below: %v, %v", v, e)
	}
	if m, e := model.Return(x, l); e != api.OK || !model.Same(m, l[:top]) {
		t.Errorf("P19.1: Return of the top one: %v", e)
	}
	l[5].Slots[0] = ref(6, 0)
	if model.Right(x, l) || model.Words(x, l) != 0 {
		t.Error("P19.1: many frames, of which one refers to the one above")
	}
}
