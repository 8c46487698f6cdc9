package runs_test

import (
	"math"
	"slices"
	"testing"

	"shoring/api"
	"shoring/runs"
)

// The signatures are exact: another one doesn't compile here.
var (
	_ func(...api.Run) (*runs.Runs, api.Errno) = runs.New
	_ func(*runs.Runs, ...api.Run) api.Errno   = (*runs.Runs).Add
	_ func(*runs.Runs, int) (api.Run, bool)    = (*runs.Runs).Best
	_ func(*runs.Runs, int) (api.Run, bool)    = (*runs.Runs).Take
	_ func(*runs.Runs, api.Run) api.Errno      = (*runs.Runs).Cut
	_ func(*runs.Runs, api.Run) bool           = (*runs.Runs).Has
	_ func(*runs.Runs) []api.Run               = (*runs.Runs).List
	_ func(*runs.Runs) int                     = (*runs.Runs).Pages
)

// rule makes numbers one behind the other, that hang on the one it starts with alone.
type rule uint64

// below is the rule's next number, from 0 to n-1.
func (r *rule) below(n int) int {
	*r = *r*6364136223846793005 + 1442695040888963407
	x := uint64(*r)
	return int((x ^ x>>29) >> 1 % uint64(n))
}

// run is pages in a row.
func run(start, n int) api.Run { return api.Run{Start: start, Len: n} }

// list are runs of their Starts and Lens, one behind the other.
func list(l ...int) []api.Run {
	var rs []api.Run
	for i := 0; i < len(l); i += 2 {
		rs = append(rs, run(l[i], l[i+1]))
	}
	return rs
}

// numbers are those around few and many pages, and both ends of an int.
func numbers() []int {
	l := []int{math.MinInt, math.MinInt + 1, math.MinInt + 1024, -1 << 32, -1 << 31, -1025, -1024, -1023, -64, -5}
	for _, n := range []int{0, 5, 12, 64, 512, 1024, 1 << 31, 1 << 32, 1 << 62} {
		for d := -2; d <= 2; d++ {
			l = append(l, n+d)
		}
	}
	return append(l, math.MaxInt-1025, math.MaxInt-1024, math.MaxInt-1023, math.MaxInt-1, math.MaxInt)
}

// pages tells of each page that there may be whether it is free: what free runs are held against.
type pages [1024]bool

// free are the pages of runs that may be.
func free(rs []api.Run) pages {
	var p pages
	for _, page := range listed(rs) {
		p[page] = true
	}
	return p
}

// there tells whether each page of a run may be: they are counted one by one, while it matters.
func there(r api.Run) bool {
	if r.Start < 0 || r.Len < 1 {
		return false
	}
	page := r.Start
	for n := r.Len; n > 0; n-- {
		if page >= 1024 {
			return false
		}
		page++
	}
	return true
}

// listed are the pages of runs that may be, one behind the other.
func listed(rs []api.Run) []int {
	var l []int
	for _, r := range rs {
		for page := r.Start; page < r.Start+r.Len; page++ {
			l = append(l, page)
		}
	}
	return l
}

// added is what Add should answer, and the pages behind it.
func (p pages) added(rs []api.Run) (pages, api.Errno) {
	for _, r := range rs {
		if !there(r) {
			return p, api.ErrRange
		}
	}
	q := p
	for _, page := range listed(rs) {
		if q[page] {
			return p, api.ErrState
		}
		q[page] = true
	}
	return q, api.OK
}

// has tells whether all pages of a run that may be are free.
func (p pages) has(r api.Run) bool {
	for page := r.Start; page < r.Start+r.Len; page++ {
		if !p[page] {
			return false
		}
	}
	return true
}

// cut is what Cut should answer, and the pages behind it.
func (p pages) cut(r api.Run) (pages, api.Errno) {
	if !there(r) {
		return p, api.ErrRange
	}
	if !p.has(r) {
		return p, api.ErrState
	}
	for page := r.Start; page < r.Start+r.Len; page++ {
		p[page] = false
	}
	return p, api.OK
}

// gathered are the free runs, found from their ends on: a page begins one, if the page ahead of it isn't free.
func (p pages) gathered() []api.Run {
	var l []api.Run
	for start := range p {
		if !p[start] || start > 0 && p[start-1] {
			continue
		}
		end := start
		for end < len(p) && p[end] {
			end++
		}
		l = append(l, run(start, end-start))
	}
	return l
}

// best is what Best should answer: the lengths are gone through, from the tightest one on.
func (p pages) best(n int) (api.Run, bool) {
	if n < 1 {
		return api.Run{}, false
	}
	rs := p.gathered()
	for want := n; want <= 1024; want++ {
		for _, r := range rs {
			if r.Len == want {
				return r, true
			}
		}
	}
	return api.Run{}, false
}

// made are free runs of these.
func made(t *testing.T, rs []api.Run) *runs.Runs {
	t.Helper()
	r, e := runs.New(rs...)
	if e != api.OK || r == nil {
		t.Fatalf("P6.1: New(%v): %v", rs, e)
	}
	return r
}

// hold asks free runs all they tell of these pages: it must be so.
func hold(t *testing.T, r *runs.Runs, p pages, what ...any) {
	t.Helper()
	want, count := p.gathered(), 0
	if got := r.List(); !slices.Equal(got, want) {
		t.Fatalf("P6.1, P0.3: %v: the free runs are %v, not %v", what, got, want)
	}
	lengths := []int{-1, 0, 1, 2}
	for _, x := range want {
		count += x.Len
		lengths = append(lengths, x.Len, x.Len+1)
		for _, c := range []struct {
			x    api.Run
			want bool
		}{
			{x, true}, {run(x.Start, 1), true}, {run(x.Start+x.Len-1, 1), true}, {run(x.Start, x.Len+1), false}, {run(x.Start-1, x.Len+1), false}, {run(x.Start+x.Len, 1), false}, {run(x.Start, 0), false},
		} {
			if got := r.Has(c.x); got != c.want {
				t.Fatalf("P6.1: %v: of %v: Has(%v) = %v", what, want, c.x, got)
			}
		}
	}
	if got := r.Pages(); got != count {
		t.Fatalf("P6.1: %v: %d pages are free, not %d", what, got, count)
	}
	for _, n := range lengths {
		x, ok := p.best(n)
		if got, is := r.Best(n); got != x || is != ok {
			t.Fatalf("P6.1: %v: of %v: Best(%d) = %v, %v, not %v, %v", what, want, n, got, is, x, ok)
		}
	}
}

func TestNewTable(t *testing.T) {
	for _, c := range []struct{ l, want []api.Run }{
		{nil, nil}, {[]api.Run{}, nil}, {list(0, 1), list(0, 1)}, {list(1023, 1), list(1023, 1)}, {list(0, 1024), list(0, 1024)}, {list(5, 2, 1, 3), list(1, 3, 5, 2)},
		// Runs that touch one another, in any order.
		{list(1, 3, 4, 2), list(1, 5)}, {list(4, 2, 1, 3), list(1, 5)}, {list(2, 1, 0, 1, 1, 1), list(0, 3)}, {list(0, 512, 512, 512), list(0, 1024)}, {list(8, 1, 2, 2, 4, 1, 0, 2), list(0, 5, 8, 1)}, {list(1, 3, 5, 2), list(1, 3, 5, 2)},
	} {
		r, e := runs.New(c.l...)
		if e != api.OK || r == nil || !slices.Equal(r.List(), c.want) {
			t.Fatalf("P6.1: New(%v): %v, %v, not %v", c.l, r.List(), e, c.want)
		}
		hold(t, r, free(c.want), "New", c.l)
	}
}

func TestNewIsRefused(t *testing.T) {
	for _, c := range []struct {
		l    []api.Run
		want api.Errno
	}{
		{list(-1, 1), api.ErrRange}, {list(0, 0), api.ErrRange}, {list(3, -1), api.ErrRange}, {list(1024, 1), api.ErrRange}, {list(0, 1025), api.ErrRange}, {list(1023, 2), api.ErrRange}, {list(0, 1, 5, 0), api.ErrRange}, {list(math.MaxInt, math.MaxInt), api.ErrRange},
		{list(3, 1, 3, 1), api.ErrState}, {list(0, 2, 1, 1), api.ErrState}, {list(1, 1, 0, 2), api.ErrState}, {list(0, 9, 3, 2), api.ErrState}, {list(3, 2, 0, 9), api.ErrState}, {list(0, 4, 8, 1, 3, 2), api.ErrState},
		{list(3, 1, 3, 1, 0, 0), api.ErrRange}, {list(3, 1, 3, 1, 1024, 1), api.ErrRange}, {list(-1, 1, 3, 1, 3, 1), api.ErrRange},
	} {
		if r, e := runs.New(c.l...); r != nil || e != c.want {
			t.Errorf("P6.1, P0.2: New(%v): %v, %v, not %v", c.l, r, e, c.want)
		}
	}
}

// start are the free runs that the tables begin with: the pages 0, 4, 5, 7, 8, and those from 12 on, aren't free.
func start() []api.Run { return list(1, 3, 6, 1, 9, 3) }

func TestAddTable(t *testing.T) {
	for _, c := range []struct {
		l    []api.Run
		want api.Errno
		free []api.Run
	}{
		{nil, api.OK, nil}, {list(14, 2), api.OK, list(1, 3, 6, 1, 9, 3, 14, 2)}, {list(20, 1, 14, 2), api.OK, list(1, 3, 6, 1, 9, 3, 14, 2, 20, 1)}, {list(1023, 1), api.OK, list(1, 3, 6, 1, 9, 3, 1023, 1)}, {list(13, 1011), api.OK, list(1, 3, 6, 1, 9, 3, 13, 1011)},
		// Runs that touch free ones: in front of one, behind one, on both sides, and one another.
		{list(0, 1), api.OK, list(0, 4, 6, 1, 9, 3)}, {list(5, 1), api.OK, list(1, 3, 5, 2, 9, 3)}, {list(8, 1), api.OK, list(1, 3, 6, 1, 8, 4)}, {list(4, 1), api.OK, list(1, 4, 6, 1, 9, 3)}, {list(7, 1), api.OK, list(1, 3, 6, 2, 9, 3)}, {list(12, 1), api.OK, list(1, 3, 6, 1, 9, 4)},
		{list(4, 2), api.OK, list(1, 6, 9, 3)}, {list(7, 2), api.OK, list(1, 3, 6, 6)}, {list(4, 2, 7, 2), api.OK, list(1, 11)}, {list(7, 2, 4, 2), api.OK, list(1, 11)}, {list(5, 1, 4, 1), api.OK, list(1, 6, 9, 3)}, {list(8, 1, 7, 1, 0, 1), api.OK, list(0, 4, 6, 6)},
		{list(15, 1, 14, 1, 13, 1), api.OK, list(1, 3, 6, 1, 9, 3, 13, 3)}, {list(12, 1012, 0, 1, 4, 2, 7, 2), api.OK, list(0, 1024)},
		// Runs that may not be: a Start below 0, a Len below 1, pages from MaxPages on.
		{list(-1, 1), api.ErrRange, nil}, {list(-1, 2), api.ErrRange, nil}, {list(-1, 2000), api.ErrRange, nil}, {list(math.MinInt, 1), api.ErrRange, nil}, {list(math.MinInt, math.MaxInt), api.ErrRange, nil}, {list(math.MinInt, math.MinInt), api.ErrRange, nil},
		{list(4, 0), api.ErrRange, nil}, {list(4, -1), api.ErrRange, nil}, {list(0, 0), api.ErrRange, nil}, {list(1024, 0), api.ErrRange, nil}, {list(1025, -1), api.ErrRange, nil}, {list(4, math.MinInt), api.ErrRange, nil}, {list(14, 1, 4, 0), api.ErrRange, nil}, {list(1, 0), api.ErrRange, nil},
		{list(1024, 1), api.ErrRange, nil}, {list(1023, 2), api.ErrRange, nil}, {list(12, 1013), api.ErrRange, nil}, {list(4, 1<<62), api.ErrRange, nil}, {list(4, math.MaxInt), api.ErrRange, nil}, {list(4, math.MaxInt-3), api.ErrRange, nil}, {list(math.MaxInt, 1), api.ErrRange, nil}, {list(math.MaxInt, math.MaxInt), api.ErrRange, nil},
		// Pages that are free: a run's front, its middle, its end, all of it, and runs that reach beyond it.
		{list(1, 1), api.ErrState, nil}, {list(2, 1), api.ErrState, nil}, {list(3, 1), api.ErrState, nil}, {list(1, 3), api.ErrState, nil}, {list(0, 2), api.ErrState, nil}, {list(3, 2), api.ErrState, nil}, {list(0, 5), api.ErrState, nil}, {list(5, 2), api.ErrState, nil}, {list(6, 2), api.ErrState, nil}, {list(0, 1024), api.ErrState, nil},
		{list(4, 3), api.ErrState, nil}, {list(11, 2), api.ErrState, nil}, {list(8, 2), api.ErrState, nil}, {list(4, 6), api.ErrState, nil}, {list(14, 1, 11, 1), api.ErrState, nil}, {list(11, 1, 14, 1), api.ErrState, nil}, {list(0, 1, 5, 1, 6, 1), api.ErrState, nil},
		// Pages that are in two of the runs.
		{list(14, 1, 14, 1), api.ErrState, nil}, {list(14, 3, 16, 2), api.ErrState, nil}, {list(16, 2, 14, 3), api.ErrState, nil}, {list(14, 5, 15, 2), api.ErrState, nil}, {list(15, 2, 14, 5), api.ErrState, nil}, {list(14, 3, 14, 1), api.ErrState, nil}, {list(14, 3, 16, 1), api.ErrState, nil},
		{list(4, 1, 5, 1, 4, 1), api.ErrState, nil}, {list(0, 1, 20, 1, 30, 1, 0, 1), api.ErrState, nil}, {list(14, 9, 15, 1, 17, 1), api.ErrState, nil},
		// What may not be is the first error, wherever it stands.
		{list(2, 1, 4, 0), api.ErrRange, nil}, {list(4, 0, 2, 1), api.ErrRange, nil}, {list(14, 1, 14, 1, -1, 1), api.ErrRange, nil}, {list(-1, 1, 14, 1, 14, 1), api.ErrRange, nil}, {list(2, 1, 1023, 2), api.ErrRange, nil}, {list(2, 1<<62), api.ErrRange, nil}, {list(2, 1023), api.ErrRange, nil}, {list(2, 0), api.ErrRange, nil}, {list(-1, 4), api.ErrRange, nil},
	} {
		r := made(t, start())
		if e := r.Add(c.l...); e != c.want {
			t.Errorf("P6.1, P0.2: Add(%v): %v, not %v", c.l, e, c.want)
		}
		if c.free == nil {
			c.free = start()
		}
		hold(t, r, free(c.free), "Add", c.l)
	}
}

func TestCutTable(t *testing.T) {
	for _, c := range []struct {
		x    api.Run
		want api.Errno
		free []api.Run
	}{
		// A run's front, its end, its middle, and all of it.
		{run(1, 1), api.OK, list(2, 2, 6, 1, 9, 3)}, {run(1, 2), api.OK, list(3, 1, 6, 1, 9, 3)}, {run(9, 1), api.OK, list(1, 3, 6, 1, 10, 2)}, {run(3, 1), api.OK, list(1, 2, 6, 1, 9, 3)}, {run(2, 2), api.OK, list(1, 1, 6, 1, 9, 3)}, {run(11, 1), api.OK, list(1, 3, 6, 1, 9, 2)},
		{run(2, 1), api.OK, list(1, 1, 3, 1, 6, 1, 9, 3)}, {run(10, 1), api.OK, list(1, 3, 6, 1, 9, 1, 11, 1)}, {run(1, 3), api.OK, list(6, 1, 9, 3)}, {run(6, 1), api.OK, list(1, 3, 9, 3)}, {run(9, 3), api.OK, list(1, 3, 6, 1)},
		// Pages that aren't free: beside a run, of two runs, and those between them.
		{run(0, 1), api.ErrState, nil}, {run(0, 2), api.ErrState, nil}, {run(3, 2), api.ErrState, nil}, {run(0, 4), api.ErrState, nil}, {run(1, 4), api.ErrState, nil}, {run(0, 5), api.ErrState, nil}, {run(4, 2), api.ErrState, nil}, {run(5, 1), api.ErrState, nil}, {run(6, 2), api.ErrState, nil}, {run(5, 2), api.ErrState, nil},
		{run(3, 4), api.ErrState, nil}, {run(1, 6), api.ErrState, nil}, {run(1, 11), api.ErrState, nil}, {run(6, 4), api.ErrState, nil}, {run(12, 1), api.ErrState, nil}, {run(9, 4), api.ErrState, nil}, {run(0, 1024), api.ErrState, nil}, {run(1023, 1), api.ErrState, nil}, {run(500, 3), api.ErrState, nil},
		// What may not be.
		{run(-1, 1), api.ErrRange, nil}, {run(-1, 3), api.ErrRange, nil}, {run(1, 0), api.ErrRange, nil}, {run(1, -1), api.ErrRange, nil}, {run(0, 0), api.ErrRange, nil}, {run(3, -2), api.ErrRange, nil}, {run(1024, 1), api.ErrRange, nil}, {run(1023, 2), api.ErrRange, nil}, {run(1, 1024), api.ErrRange, nil}, {run(0, 1025), api.ErrRange, nil}, {run(1024, 0), api.ErrRange, nil},
		{run(1, 1<<62), api.ErrRange, nil}, {run(1, math.MaxInt), api.ErrRange, nil}, {run(2, math.MaxInt), api.ErrRange, nil}, {run(math.MaxInt, math.MaxInt), api.ErrRange, nil}, {run(math.MaxInt, 1), api.ErrRange, nil}, {run(math.MinInt, 1), api.ErrRange, nil}, {run(math.MinInt, math.MaxInt), api.ErrRange, nil}, {run(math.MinInt, math.MinInt), api.ErrRange, nil}, {run(1, math.MinInt), api.ErrRange, nil},
	} {
		r := made(t, start())
		if got := r.Has(c.x); got != (c.want == api.OK) {
			t.Errorf("P6.1: Has(%v) = %v", c.x, got)
		}
		if e := r.Cut(c.x); e != c.want {
			t.Errorf("P6.1, P0.2: Cut(%v): %v, not %v", c.x, e, c.want)
		}
		if c.free == nil {
			c.free = start()
		}
		hold(t, r, free(c.free), "Cut", c.x)
	}
}

func TestTakeTable(t *testing.T) {
	for _, c := range []struct {
		free        []api.Run
		n           int
		best, taken api.Run
	}{
		{list(0, 5, 8, 2), 2, run(8, 2), run(8, 2)}, {list(0, 5, 8, 2), 1, run(8, 2), run(8, 1)}, {list(0, 5, 8, 2), 3, run(0, 5), run(0, 3)}, {list(0, 5, 8, 2), 5, run(0, 5), run(0, 5)}, {list(0, 2, 8, 5), 2, run(0, 2), run(0, 2)}, {list(0, 2, 8, 5), 3, run(8, 5), run(8, 3)},
		{list(0, 9, 20, 4, 30, 6), 4, run(20, 4), run(20, 4)}, {list(0, 9, 20, 4, 30, 6), 3, run(20, 4), run(20, 3)}, {list(0, 9, 20, 4, 30, 6), 5, run(30, 6), run(30, 5)}, {list(0, 9, 20, 4, 30, 6), 7, run(0, 9), run(0, 7)},
		// Of runs of the same length the one with the least Start.
		{list(4, 3, 10, 3, 20, 3), 3, run(4, 3), run(4, 3)}, {list(4, 3, 10, 3, 20, 3), 1, run(4, 3), run(4, 1)}, {list(20, 3, 10, 3, 4, 3), 2, run(4, 3), run(4, 2)}, {list(0, 5, 10, 3, 20, 3), 2, run(10, 3), run(10, 2)}, {list(0, 1, 10, 3, 20, 3, 30, 9), 2, run(10, 3), run(10, 2)},
		{list(0, 1024), 1, run(0, 1024), run(0, 1)}, {list(0, 1024), 1024, run(0, 1024), run(0, 1024)}, {list(1023, 1), 1, run(1023, 1), run(1023, 1)}, {list(0, 3, 1020, 4), 4, run(1020, 4), run(1020, 4)},
	} {
		r, p := made(t, c.free), free(c.free)
		if x, ok := r.Best(c.n); !ok || x != c.best {
			t.Errorf("P6.1, P6.2: of %v: Best(%d) = %v, %v, not %v", c.free, c.n, x, ok, c.best)
		}
		hold(t, r, p, "Best", c.free, c.n)
		if x, ok := r.Take(c.n); !ok || x != c.taken {
			t.Errorf("P6.1, P6.2: of %v: Take(%d) = %v, %v, not %v", c.free, c.n, x, ok, c.taken)
		}
		p, _ = p.cut(c.taken)
		hold(t, r, p, "Take", c.free, c.n)
	}
}

// TestNothingToTake asks for no pages, and for more than any run has, though all runs together may have them.
func TestNothingToTake(t *testing.T) {
	for _, c := range []struct {
		free []api.Run
		l    []int
	}{
		{nil, []int{math.MinInt, -1, 0, 1, 2, 1024, math.MaxInt}}, {start(), []int{math.MinInt, -3, -1, 0, 4, 5, 7, 1024, 1025, 1 << 62, math.MaxInt}}, {list(0, 1024), []int{math.MinInt, -1, 0, 1025, math.MaxInt}}, {list(5, 1, 7, 1), []int{-1, 0, 2}},
	} {
		r := made(t, c.free)
		for _, n := range c.l {
			if x, ok := r.Best(n); ok || x != run(0, 0) {
				t.Errorf("P6.1, P0.2: of %v: Best(%d) = %v, %v", c.free, n, x, ok)
			}
			if x, ok := r.Take(n); ok || x != run(0, 0) {
				t.Errorf("P6.1, P0.2: of %v: Take(%d) = %v, %v", c.free, n, x, ok)
			}
			hold(t, r, free(c.free), "Take", n)
		}
	}
}

// TestExample is the chapter's.
func TestExample(t *testing.T) {
	r := made(t, list(0, 5, 8, 2))
	if x, ok := r.Take(2); !ok || x != run(8, 2) {
		t.Errorf("P6.1: Take(2) = %v, %v", x, ok)
	}
}

// TestPairsOfRuns adds each pair of runs, and cuts each run, on each way in which few pages may be free, at both ends of what there may be.
func TestPairsOfRuns(t *testing.T) {
	const few = 4
	for _, first := range []int{0, 1024 - few} {
		var all []api.Run
		for s := -1; s <= few; s++ {
			for n := 0; n <= few+1; n++ {
				all = append(all, run(first+s, n))
			}
		}
		for state := range 1 << few {
			var p pages
			for i := range few {
				p[first+i] = state>>i&1 == 1
			}
			for _, a := range all {
				pair(t, p, a)
				for _, b := range all {
					pair(t, p, a, b)
				}
			}
		}
	}
}

// pair adds runs to pages, and cuts the first one out of them.
func pair(t *testing.T, p pages, l ...api.Run) {
	t.Helper()
	r := made(t, p.gathered())
	q, e := p.added(l)
	if got := r.Add(l...); got != e {
		t.Fatalf("P6.1: of %v: Add(%v): %v, not %v", p.gathered(), l, got, e)
	}
	hold(t, r, q, "Add", p.gathered(), l)
	r = made(t, p.gathered())
	q, e = p.cut(l[0])
	if got := r.Has(l[0]); got != (e == api.OK) {
		t.Fatalf("P6.1: of %v: Has(%v) = %v", p.gathered(), l[0], got)
	}
	if got := r.Cut(l[0]); got != e {
		t.Fatalf("P6.1: of %v: Cut(%v): %v, not %v", p.gathered(), l[0], got, e)
	}
	hold(t, r, q, "Cut", p.gathered(), l[0])
}

// some are as many runs that the rule chooses; some of them may not be, or share pages.
func some(r *rule, first, room, most int) []api.Run {
	var l []api.Run
	for range r.below(most + 1) {
		l = append(l, run(first+r.below(room+2)-1, r.below(5)))
	}
	return l
}

// TestRowsOfCalls holds rows of calls against pages that are changed one by one.
func TestRowsOfCalls(t *testing.T) {
	for seed := range 20 {
		r := rule(seed)
		room := 4 + seed*3
		first := seed % 2 * (1024 - room)
		x, p := made(t, nil), pages{}
		for range 1500 {
			switch r.below(3) {
			case 0:
				l := some(&r, first, room, 3)
				q, e := p.added(l)
				if got := x.Add(l...); got != e {
					t.Fatalf("P6.1: seed %d: of %v: Add(%v): %v, not %v", seed, p.gathered(), l, got, e)
				}
				p = q
			case 1:
				c := run(first+r.below(room+2)-1, r.below(4))
				q, e := p.cut(c)
				if got := x.Cut(c); got != e {
					t.Fatalf("P6.1: seed %d: of %v: Cut(%v): %v, not %v", seed, p.gathered(), c, got, e)
				}
				p = q
			case 2:
				p = take(t, x, p, r.below(7)-1)
			}
			hold(t, x, p, "seed", seed)
		}
	}
}

// take takes n pages, and answers those that are free then: what was taken was free, and of all that could be taken from it was the tightest.
func take(t *testing.T, r *runs.Runs, p pages, n int) pages {
	t.Helper()
	best, fits := p.best(n)
	x, ok := r.Take(n)
	if ok != fits || !ok && x != run(0, 0) {
		t.Fatalf("P6.1: of %v: Take(%d) = %v, %v", p.gathered(), n, x, ok)
	}
	if !ok {
		return p
	}
	if x != run(best.Start, n) || !p.has(x) {
		t.Fatalf("P6.2: of %v: Take(%d) = %v, not from %v", p.gathered(), n, x, best)
	}
	for _, other := range p.gathered() {
		if other.Len >= n && (other.Len < best.Len || other.Len == best.Len && other.Start < x.Start) {
			t.Fatalf("P6.2: of %v: Take(%d) = %v: %v is tighter", p.gathered(), n, x, other)
		}
	}
	q, _ := p.cut(x)
	return q
}

// TestAllIsTaken takes pages till none are left, and gives them back in another order: one run is made of them.
func TestAllIsTaken(t *testing.T) {
	for n := 1; n <= 7; n++ {
		r, p := made(t, list(0, 1024)), free(list(0, 1024))
		var taken []api.Run
		for range 1024 / n {
			x, ok := r.Take(n)
			if !ok || !p.has(x) {
				t.Fatalf("P6.2: Take(%d) = %v, %v", n, x, ok)
			}
			p, _ = p.cut(x)
			taken = append(taken, x)
		}
		if x, ok := r.Take(n); ok || r.Pages() != 1024%n {
			t.Fatalf("P6.2: of %d pages: Take(%d) = %v", r.Pages(), n, x)
		}
		for i := range taken {
			// 7 divides none of these counts: so each one comes up.
			x := taken[i*7%len(taken)]
			if e := r.Add(x); e != api.OK {
				t.Fatalf("P6.1: Add(%v) of what was taken: %v", x, e)
			}
		}
		if !slices.Equal(r.List(), list(0, 1024)) {
			t.Fatalf("P6.1: all pages that were taken by %d aren't one run: %v", n, r.List())
		}
	}
}

// TestManyRuns tells a run of each page, up and down, those with even numbers ahead of the others, and one more.
func TestManyRuns(t *testing.T) {
	var up, even, odd []api.Run
	for page := range 1024 {
		up = append(up, run(page, 1))
		if page%2 == 0 {
			even = append(even, run(page, 1))
		} else {
			odd = append(odd, run(page, 1))
		}
	}
	down := slices.Clone(up)
	slices.Reverse(down)
	for _, l := range [][]api.Run{up, down, append(slices.Clone(odd), even...)} {
		if r := made(t, l); !slices.Equal(r.List(), list(0, 1024)) || r.Pages() != 1024 {
			t.Errorf("P6.1: New of each page: %v", r.List())
		}
		if r, e := runs.New(append(slices.Clone(l), run(500, 1))...); r != nil || e != api.ErrState {
			t.Errorf("P6.1: New of each page, and one of them twice: %v", e)
		}
		if r, e := runs.New(append(slices.Clone(l), run(1023, 2))...); r != nil || e != api.ErrRange {
			t.Errorf("P6.1: New of each page, and one that may not be: %v", e)
		}
	}
	r := made(t, odd)
	hold(t, r, free(odd), "New of each second page")
	if e := r.Add(append(slices.Clone(even), run(7, 1))...); e != api.ErrState {
		t.Errorf("P6.1: Add of each other page, and of one that is free: %v", e)
	}
	hold(t, r, free(odd), "Add that is refused")
	if e := r.Add(even...); e != api.OK || !slices.Equal(r.List(), list(0, 1024)) {
		t.Errorf("P6.1: Add of each other page: %v, %v", e, r.List())
	}
	for _, x := range even {
		if e := r.Cut(x); e != api.OK {
			t.Errorf("P6.1: Cut(%v): %v", x, e)
		}
	}
	hold(t, r, free(odd), "Cut of each other page")
}

// TestNil asks nil free runs all that free runs are asked.
func TestNil(t *testing.T) {
	var r *runs.Runs
	if len(r.List()) != 0 || r.Pages() != 0 {
		t.Errorf("P6.1: nil: List or Pages: %v, %d", r.List(), r.Pages())
	}
	if e := r.Add(); e != api.OK {
		t.Errorf("P6.1: nil: Add of no runs: %v", e)
	}
	for _, n := range numbers() {
		if x, ok := r.Best(n); ok || x != run(0, 0) {
			t.Errorf("P6.1: nil: Best(%d) = %v, %v", n, x, ok)
		}
		if x, ok := r.Take(n); ok || x != run(0, 0) {
			t.Errorf("P6.1: nil: Take(%d) = %v, %v", n, x, ok)
		}
		for _, x := range []api.Run{run(0, n), run(n, 0), run(n, 1), run(1, n), run(n, n)} {
			want := api.ErrRange
			if there(x) {
				want = api.ErrState
			}
			if r.Add(x) != want || r.Add(x, x) != want || r.Cut(x) != want || r.Has(x) {
				t.Errorf("P6.1: nil: of %v: Add %v, twice %v, Cut %v, Has %v", x, r.Add(x), r.Add(x, x), r.Cut(x), r.Has(x))
			}
		}
	}
	for _, l := range [][]api.Run{list(3, 1, 0, 0), list(0, 0, 3, 1), list(3, 1, 3, 1, 1024, 1)} {
		if e := r.Add(l...); e != api.ErrRange {
			t.Errorf("P6.1, P0.2: nil: Add(%v): %v", l, e)
		}
	}
}

// TestAllNumbers hands in all numbers: a panic ends the test, and what may not be is refused.
func TestAllNumbers(t *testing.T) {
	for _, s := range numbers() {
		p := free(start())
		take(t, made(t, start()), p, s)
		for _, n := range numbers() {
			x := run(s, n)
			r := made(t, start())
			q, e := p.added([]api.Run{x})
			if got := r.Add(x); got != e {
				t.Errorf("P6.1, P0.1: Add(%v): %v, not %v", x, got, e)
			}
			hold(t, r, q, "Add", x)
			r = made(t, start())
			q, e = p.cut(x)
			if got := r.Has(x); got != (e == api.OK) {
				t.Errorf("P6.1, P0.1: Has(%v) = %v", x, got)
			}
			if got := r.Cut(x); got != e {
				t.Errorf("P6.1, P0.1: Cut(%v): %v, not %v", x, got, e)
			}
			hold(t, r, q, "Cut", x)
			if y, got := runs.New(x); (y != nil) != there(x) || (got == api.OK) != there(x) {
				t.Errorf("P6.1, P0.1: New(%v): %v, %v", x, y, got)
			}
		}
	}
}

// TestAskingChangesNothing asks free runs all that changes nothing.
func TestAskingChangesNothing(t *testing.T) {
	r := made(t, start())
	for _, n := range numbers() {
		r.Best(n)
		r.Has(run(n, 1))
		r.Has(run(1, n))
		r.List()
		r.Pages()
	}
	hold(t, r, free(start()), "asking")
}

// TestListsAreLeftAndNotKept hands in lists with room behind them, and writes into them afterwards.
func TestListsAreLeftAndNotKept(t *testing.T) {
	room := list(20, 2, 14, 1, 15, 1, 0, 0, 99, 9)
	kept := slices.Clone(room)
	want := list(14, 2, 20, 2)
	r, e := runs.New(room[:3]...)
	if e != api.OK || !slices.Equal(room, kept) {
		t.Fatalf("P0.4: New: %v, and of %v it made %v", e, kept, room)
	}
	clear(room)
	hold(t, r, free(want), "writing into the runs that were handed in to New")
	copy(room, kept)
	r = made(t, nil)
	for _, n := range []int{4, 5, 0, 3, 3} {
		r.Add(room[:n]...)
		if !slices.Equal(room, kept) {
			t.Fatalf("P0.4: Add made %v of %v", room, kept)
		}
	}
	clear(room)
	hold(t, r, free(want), "writing into the runs that were handed in to Add")
	one := list(3, 1, 9, 9)
	r = made(t, one[:1])
	r.Add(run(4, 1), run(1, 1))
	r.Cut(run(3, 1))
	if !slices.Equal(one, list(3, 1, 9, 9)) {
		t.Errorf("P0.4: calls behind New write into what was handed in to it: %v", one)
	}
}

// TestListsAreNew writes into runs that are answered, up to the end of their room.
func TestListsAreNew(t *testing.T) {
	r := made(t, start())
	l, other := r.List(), r.List()
	l = l[:cap(l)]
	for i := range l {
		l[i] = run(99, 99)
	}
	if !slices.Equal(other, start()) {
		t.Errorf("P0.4: writing into a list changes another one: %v", other)
	}
	hold(t, r, free(start()), "writing into the runs that were answered")
	r.Cut(run(2, 1))
	r.Take(1)
	r.Add(run(30, 2))
	if !slices.Equal(other, start()) {
		t.Errorf("P0.4: calls change runs that were answered before: %v", other)
	}
}

// TestNilIsEmpty hands in a nil list and an empty one.
func TestNilIsEmpty(t *testing.T) {
	for _, r := range []*runs.Runs{nil, made(t, nil), made(t, []api.Run{}), made(t, start())} {
		before := r.List()
		if a, b := r.Add(nil...), r.Add([]api.Run{}...); a != api.OK || b != api.OK || !slices.Equal(r.List(), before) {
			t.Errorf("P0.5: Add of nil: %v, of an empty list: %v", a, b)
		}
	}
	if e := made(t, nil).Add(run(3, 1)); e != api.OK {
		t.Errorf("P6.1: Add to none: %v", e)
	}
}

// TestApart changes one of two.
func TestApart(t *testing.T) {
	x, y := made(t, start()), made(t, start())
	y.Add(run(4, 2))
	y.Cut(run(9, 2))
	y.Take(1)
	hold(t, x, free(start()), "calls to others")
}

// TestSameAnswersAgain does the same row of calls twice.
func TestSameAnswersAgain(t *testing.T) {
	do := func() []int {
		x, r := made(t, nil), rule(99)
		var l []int
		for range 2000 {
			l = append(l, int(x.Add(some(&r, 0, 40, 3)...)), int(x.Cut(run(r.below(40), r.below(3)))))
			taken, _ := x.Take(r.below(4))
			for _, c := range append(x.List(), taken) {
				l = append(l, c.Start, c.Len)
			}
		}
		return l
	}
	if !slices.Equal(do(), do()) {
		t.Error("P0.6: the same calls answer otherwise the second time")
	}
}
