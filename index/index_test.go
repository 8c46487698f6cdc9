package index_test

import (
	"math"
	"slices"
	"testing"

	"shoring/api"
	"shoring/index"
)

// The signatures are exact: another one doesn't compile here.
var (
	_ func(int) *index.Index                        = index.New
	_ func(*index.Index) int                        = (*index.Index).Pages
	_ func(*index.Index, int, ...api.Run) api.Errno = (*index.Index).Set
	_ func(*index.Index, ...api.Run) api.Errno      = (*index.Index).Drop
	_ func(*index.Index, int) int                   = (*index.Index).Of
	_ func(*index.Index, int) int                   = (*index.Index).At
	_ func(*index.Index, int) []api.Run             = (*index.Index).Runs
	_ interface {
		Set(id int, runs ...api.Run) api.Errno
	} = index.New(0)
)

// rule makes numbers one behind the other, that hang on the one it starts with alone.
type rule uint64

// below is the rule's next number, from 0 to n-1.
func (r *rule) below(n int) int {
	*r = *r*6364136223846793005 + 1442695040888963407
	x := uint64(*r)
	return int((x ^ x>>29) >> 1 % uint64(n))
}

// run is pages in a row.
func run(start, n int) api.Run { return api.Run{Start: start, Len: n} }

// runs are runs of their Starts and Lens, one behind the other.
func runs(l ...int) []api.Run {
	var rs []api.Run
	for i := 0; i < len(l); i += 2 {
		rs = append(rs, run(l[i], l[i+1]))
	}
	return rs
}

// numbers are those around few and many pages, around words, and both ends of an int.
func numbers() []int {
	l := []int{math.MinInt, math.MinInt + 1, math.MinInt + 10, -1 << 32, -1 << 31, -1025, -1024, -65, -64, -63, -10, -5}
	for _, n := range []int{0, 4, 10, 64, 640, 1024, 65536, 1 << 31, 1 << 32, 1 << 57, 1 << 58, 1 << 62} {
		for d := -2; d <= 2; d++ {
			l = append(l, n+d)
		}
	}
	return append(l, math.MaxInt-1024, math.MaxInt-10, math.MaxInt-9, math.MaxInt-1, math.MaxInt)
}

// there tells whether each page of a run is below pages: they are counted one by one, while it matters.
func there(pages int, r api.Run) bool {
	if r.Start < 0 || r.Len < 1 {
		return false
	}
	page := r.Start
	for n := r.Len; n > 0; n-- {
		if page >= pages {
			return false
		}
		page++
	}
	return true
}

// listed are the pages of runs that are all there, one behind the other.
func listed(rs []api.Run) []int {
	var l []int
	for _, r := range rs {
		for page := r.Start; page < r.Start+r.Len; page++ {
			l = append(l, page)
		}
	}
	return l
}

// refused is the error of what is wrong of runs; ids are the numbers as they stand, and drop tells which of both calls it is.
func refused(ids []int, drop bool, rs []api.Run) api.Errno {
	for _, r := range rs {
		if !there(len(ids), r) {
			return api.ErrRange
		}
	}
	pages := listed(rs)
	for i, page := range pages {
		if (ids[page] == 0) == drop || !drop && slices.Contains(pages[:i], page) {
			return api.ErrState
		}
	}
	return api.OK
}

// set is what Set should answer, and the numbers behind it.
func set(ids []int, id int, rs []api.Run) ([]int, api.Errno) {
	if id < 1 {
		return ids, api.ErrArg
	}
	e := refused(ids, false, rs)
	return written(ids, id, rs, e), e
}

// dropped is what Drop should answer, and the numbers behind it.
func dropped(ids []int, rs []api.Run) ([]int, api.Errno) {
	e := refused(ids, true, rs)
	return written(ids, 0, rs, e), e
}

// written are numbers behind a call that was refused, or wasn't.
func written(ids []int, id int, rs []api.Run, e api.Errno) []int {
	l := slices.Clone(ids)
	if e == api.OK {
		for _, page := range listed(rs) {
			l[page] = id
		}
	}
	return l
}

// gathered are the runs of a number, found from their ends on: a page begins one, if the page ahead of it has another number.
func gathered(ids []int, id int) []api.Run {
	var l []api.Run
	for start := range ids {
		if ids[start] != id || start > 0 && ids[start-1] == id {
			continue
		}
		end := start
		for end < len(ids) && ids[end] == id {
			end++
		}
		l = append(l, run(start, end-start))
	}
	return l
}

// made is an index of as many pages as there are numbers, that has these.
func made(t *testing.T, ids []int) *index.Index {
	t.Helper()
	x := index.New(len(ids))
	for page, id := range ids {
		if id == 0 {
			continue
		}
		if e := x.Set(id, run(page, 1)); e != api.OK {
			t.Fatalf("P5.1: Set(%d) of the page %d: %v", id, page, e)
		}
	}
	return x
}

// told are an index' numbers, asked one by one.
func told(x *index.Index) []int {
	var l []int
	for page := range x.Pages() {
		l = append(l, x.Of(page))
	}
	return l
}

// hold asks an index all it tells: it must be these numbers.
func hold(t *testing.T, x *index.Index, ids []int, what ...any) {
	t.Helper()
	if got := told(x); !slices.Equal(got, ids) {
		t.Fatalf("P5.1, P0.3: %v: the numbers are %v, not %v", what, got, ids)
	}
	for page, id := range ids {
		if x.At(64*page) != id || x.At(64*page+63) != id {
			t.Fatalf("P5.1: %v: At of the page %d isn't %d", what, page, id)
		}
	}
	asked := append(slices.Clone(ids), 0)
	slices.Sort(asked)
	var all []int
	for _, id := range slices.Compact(asked) {
		got := x.Runs(id)
		if want := gathered(ids, id); !slices.Equal(got, want) {
			t.Fatalf("P5.1: %v: Runs(%d) = %v, not %v", what, id, got, want)
		}
		all = append(all, listed(got)...)
	}
	slices.Sort(all)
	for i, page := range all {
		if i != page {
			t.Fatalf("P5.2: %v: the runs of all numbers are %v", what, all)
		}
	}
	if len(all) != x.Pages() {
		t.Fatalf("P5.2: %v: the runs of all numbers are %d pages, not %d", what, len(all), x.Pages())
	}
}

func TestNewTable(t *testing.T) {
	for _, c := range []struct{ pages, want int }{
		{math.MinInt, 0}, {-1024, 0}, {-5, 0}, {-1, 0}, {0, 0}, {1, 1}, {2, 2}, {3, 3}, {4, 4}, {10, 10}, {1023, 1023}, {1024, 1024}, {1025, 1024}, {5000, 1024},
		{1 << 31, 1024}, {1<<32 + 5, 1024}, {1 << 62, 1024}, {math.MaxInt, 1024},
	} {
		x := index.New(c.pages)
		if x == nil || x.Pages() != c.want {
			t.Fatalf("P5.1: New(%d) has %d pages, not %d", c.pages, x.Pages(), c.want)
		}
		hold(t, x, make([]int, c.want), "New", c.pages)
		if got := x.Set(1, run(c.want, 1)); got != api.ErrRange {
			t.Errorf("P5.1: New(%d): Set of the page behind the last one: %v", c.pages, got)
		}
		if c.want > 0 && x.Set(1, run(0, c.want)) != api.OK {
			t.Errorf("P5.1: New(%d): Set of all pages is refused", c.pages)
		}
	}
}

// start are the numbers that the tables begin with: of the pages 0, 5, 6, 7 there are none.
func start() []int { return []int{0, 2, 2, 2, 5, 0, 0, 0, 2, 2} }

func TestSetTable(t *testing.T) {
	for _, c := range []struct {
		id   int
		l    []api.Run
		want api.Errno
		ids  []int
	}{
		{3, nil, api.OK, nil}, {2, nil, api.OK, nil}, {math.MaxInt, nil, api.OK, nil}, {0, nil, api.ErrArg, nil}, {-1, nil, api.ErrArg, nil}, {math.MinInt, nil, api.ErrArg, nil},
		{1, runs(0, 1), api.OK, []int{1, 2, 2, 2, 5, 0, 0, 0, 2, 2}}, {3, runs(5, 3), api.OK, []int{0, 2, 2, 2, 5, 3, 3, 3, 2, 2}}, {3, runs(7, 1, 0, 1, 5, 1), api.OK, []int{3, 2, 2, 2, 5, 3, 0, 3, 2, 2}},
		{2, runs(0, 1), api.OK, []int{2, 2, 2, 2, 5, 0, 0, 0, 2, 2}}, {5, runs(5, 2), api.OK, []int{0, 2, 2, 2, 5, 5, 5, 0, 2, 2}}, {math.MaxInt, runs(6, 1), api.OK, []int{0, 2, 2, 2, 5, 0, math.MaxInt, 0, 2, 2}},
		{1 << 40, runs(5, 1, 6, 1, 7, 1), api.OK, []int{0, 2, 2, 2, 5, 1 << 40, 1 << 40, 1 << 40, 2, 2}},
		// No number.
		{0, runs(0, 1), api.ErrArg, nil}, {-1, runs(0, 1), api.ErrArg, nil}, {math.MinInt, runs(0, 1), api.ErrArg, nil}, {0, runs(1, 1), api.ErrArg, nil}, {0, runs(99, 1), api.ErrArg, nil}, {-3, runs(5, 0), api.ErrArg, nil}, {0, runs(5, 1, 5, 1), api.ErrArg, nil},
		// Pages that aren't there.
		{3, runs(-1, 1), api.ErrRange, nil}, {3, runs(-1, 2), api.ErrRange, nil}, {3, runs(-1, 20), api.ErrRange, nil}, {3, runs(10, 1), api.ErrRange, nil}, {3, runs(9, 2), api.ErrRange, nil}, {3, runs(5, 6), api.ErrRange, nil}, {3, runs(11, 1), api.ErrRange, nil},
		{3, runs(1024, 1), api.ErrRange, nil}, {3, runs(5000, 1), api.ErrRange, nil}, {3, runs(5, 1<<62), api.ErrRange, nil}, {3, runs(5, math.MaxInt), api.ErrRange, nil}, {3, runs(5, math.MaxInt-4), api.ErrRange, nil}, {3, runs(math.MaxInt, 1), api.ErrRange, nil},
		{3, runs(math.MaxInt, math.MaxInt), api.ErrRange, nil}, {3, runs(math.MinInt, math.MaxInt), api.ErrRange, nil}, {3, runs(math.MinInt, 1), api.ErrRange, nil}, {3, runs(math.MinInt, math.MinInt), api.ErrRange, nil}, {3, runs(5, math.MinInt), api.ErrRange, nil}, {3, runs(-5, 11), api.ErrRange, nil},
		// Runs of no pages, wherever.
		{3, runs(0, 0), api.ErrRange, nil}, {3, runs(0, -1), api.ErrRange, nil}, {3, runs(5, 0), api.ErrRange, nil}, {3, runs(5, -5), api.ErrRange, nil}, {3, runs(10, 0), api.ErrRange, nil}, {3, runs(-1, 0), api.ErrRange, nil}, {3, runs(10, -3), api.ErrRange, nil}, {3, runs(0, 1, 5, 0), api.ErrRange, nil},
		// Pages that have a number: at the front, in the middle, at the end, the same number, too.
		{3, runs(1, 1), api.ErrState, nil}, {2, runs(1, 1), api.ErrState, nil}, {2, runs(2, 1), api.ErrState, nil}, {3, runs(0, 2), api.ErrState, nil}, {3, runs(4, 2), api.ErrState, nil}, {3, runs(0, 10), api.ErrState, nil}, {3, runs(7, 2), api.ErrState, nil}, {3, runs(0, 1, 3, 1), api.ErrState, nil}, {3, runs(3, 1, 0, 1), api.ErrState, nil},
		// Pages that are in two of the runs.
		{3, runs(5, 1, 5, 1), api.ErrState, nil}, {3, runs(5, 2, 6, 1), api.ErrState, nil}, {3, runs(6, 1, 5, 2), api.ErrState, nil}, {3, runs(5, 3, 6, 1), api.ErrState, nil}, {3, runs(6, 1, 5, 3), api.ErrState, nil}, {3, runs(5, 2, 6, 2), api.ErrState, nil}, {3, runs(0, 1, 5, 1, 7, 1, 0, 1), api.ErrState, nil},
		// The first error that applies to any of the runs.
		{3, runs(0, 1, 3, 1, 10, 1), api.ErrRange, nil}, {3, runs(3, 1, 10, 1), api.ErrRange, nil}, {3, runs(10, 1, 3, 1), api.ErrRange, nil}, {3, runs(5, 1, 5, 1, 5, 0), api.ErrRange, nil}, {3, runs(5, 1, 5, 1, -1, 1), api.ErrRange, nil}, {3, runs(9, 2), api.ErrRange, nil}, {3, runs(3, 1<<62), api.ErrRange, nil}, {3, runs(-1, 3), api.ErrRange, nil},
	} {
		x := made(t, start())
		if e := x.Set(c.id, c.l...); e != c.want {
			t.Errorf("P5.1, P0.2: Set(%d, %v): %v, not %v", c.id, c.l, e, c.want)
		}
		if c.ids == nil {
			c.ids = start()
		}
		hold(t, x, c.ids, "Set", c.id, c.l)
	}
}

func TestDropTable(t *testing.T) {
	for _, c := range []struct {
		l    []api.Run
		want api.Errno
		ids  []int
	}{
		{nil, api.OK, nil}, {runs(1, 1), api.OK, []int{0, 0, 2, 2, 5, 0, 0, 0, 2, 2}}, {runs(2, 2, 9, 1), api.OK, []int{0, 2, 0, 0, 5, 0, 0, 0, 2, 0}}, {runs(8, 2, 1, 4), api.OK, make([]int, 10)},
		{runs(3, 2), api.OK, []int{0, 2, 2, 0, 0, 0, 0, 0, 2, 2}}, {runs(9, 1), api.OK, []int{0, 2, 2, 2, 5, 0, 0, 0, 2, 0}},
		// A page that is in two of the runs has a number when all are asked.
		{runs(1, 1, 1, 1), api.OK, []int{0, 0, 2, 2, 5, 0, 0, 0, 2, 2}}, {runs(1, 3, 2, 3), api.OK, []int{0, 0, 0, 0, 0, 0, 0, 0, 2, 2}}, {runs(4, 1, 1, 4, 4, 1), api.OK, []int{0, 0, 0, 0, 0, 0, 0, 0, 2, 2}},
		// Pages that aren't there, and runs of no pages.
		{runs(-1, 1), api.ErrRange, nil}, {runs(-1, 3), api.ErrRange, nil}, {runs(10, 1), api.ErrRange, nil}, {runs(9, 2), api.ErrRange, nil}, {runs(8, 3), api.ErrRange, nil}, {runs(1, 0), api.ErrRange, nil}, {runs(1, -1), api.ErrRange, nil}, {runs(10, 0), api.ErrRange, nil}, {runs(1, 1<<62), api.ErrRange, nil},
		{runs(1, math.MaxInt), api.ErrRange, nil}, {runs(math.MaxInt, 1), api.ErrRange, nil}, {runs(math.MaxInt, math.MaxInt), api.ErrRange, nil}, {runs(math.MinInt, math.MaxInt), api.ErrRange, nil}, {runs(1, math.MinInt), api.ErrRange, nil}, {runs(1024, 1), api.ErrRange, nil}, {runs(1, 1, 3, 0), api.ErrRange, nil},
		// Pages that have none: at the front, in the middle, at the end, in a run behind others.
		{runs(0, 1), api.ErrState, nil}, {runs(0, 2), api.ErrState, nil}, {runs(4, 2), api.ErrState, nil}, {runs(7, 2), api.ErrState, nil}, {runs(0, 10), api.ErrState, nil}, {runs(1, 8), api.ErrState, nil}, {runs(5, 3), api.ErrState, nil}, {runs(1, 1, 5, 1), api.ErrState, nil}, {runs(5, 1, 1, 1), api.ErrState, nil}, {runs(0, 1, 0, 1), api.ErrState, nil},
		// The first error that applies to any of the runs.
		{runs(1, 1, 7, 9), api.ErrRange, nil}, {runs(0, 1, 10, 1), api.ErrRange, nil}, {runs(10, 1, 0, 1), api.ErrRange, nil}, {runs(0, 1, 1, 1, -1, 1), api.ErrRange, nil}, {runs(5, 1, 5, 0), api.ErrRange, nil}, {runs(5, 1<<62), api.ErrRange, nil}, {runs(5, 6), api.ErrRange, nil},
	} {
		x := made(t, start())
		if e := x.Drop(c.l...); e != c.want {
			t.Errorf("P5.1, P0.2: Drop(%v): %v, not %v", c.l, e, c.want)
		}
		if c.ids == nil {
			c.ids = start()
		}
		hold(t, x, c.ids, "Drop", c.l)
	}
}

// TestPairsOfRuns does both calls with each pair of runs, on each way in which few pages may stand.
func TestPairsOfRuns(t *testing.T) {
	var all []api.Run
	for s := -1; s <= 4; s++ {
		for n := 0; n <= 5; n++ {
			all = append(all, run(s, n))
		}
	}
	for state := range 16 {
		ids := []int{state & 1 * 7, state >> 1 & 1 * 7, state >> 2 & 1 * 9, state >> 3 & 1 * 9}
		for _, a := range all {
			for _, b := range all {
				for _, l := range [][]api.Run{{a}, {a, b}} {
					x := made(t, ids)
					want, e := set(ids, 8, l)
					if got := x.Set(8, l...); got != e {
						t.Fatalf("P5.1: of %v: Set(8, %v): %v, not %v", ids, l, got, e)
					}
					hold(t, x, want, "Set", ids, l)
					x = made(t, ids)
					want, e = dropped(ids, l)
					if got := x.Drop(l...); got != e {
						t.Fatalf("P5.1: of %v: Drop(%v): %v, not %v", ids, l, got, e)
					}
					hold(t, x, want, "Drop", ids, l)
				}
			}
		}
	}
}

func TestOfTable(t *testing.T) {
	x, ids := made(t, start()), start()
	for _, page := range append(numbers(), 5, 6, 7) {
		want := 0
		if page >= 0 && page < 10 {
			want = ids[page]
		}
		if got := x.Of(page); got != want {
			t.Errorf("P5.1: Of(%d) = %d, not %d", page, got, want)
		}
	}
}

func TestAtTable(t *testing.T) {
	x := made(t, start())
	for _, c := range []struct{ at, want int }{
		{0, 0}, {63, 0}, {64, 2}, {65, 2}, {127, 2}, {128, 2}, {255, 2}, {256, 5}, {319, 5}, {320, 0}, {511, 0}, {512, 2}, {639, 2}, {64*9 + 63, 2},
		{640, 0}, {641, 0}, {704, 0}, {65536, 0}, {1 << 40, 0}, {math.MaxInt, 0}, {-1, 0}, {-2, 0}, {-63, 0}, {-64, 0}, {-65, 0}, {-128, 0}, {math.MinInt, 0}, {math.MinInt + 64, 0},
	} {
		if got := x.At(c.at); got != c.want {
			t.Errorf("P5.1: At(%d) = %d, not %d", c.at, got, c.want)
		}
	}
}

// TestAtOfEachAddress counts addresses up, 64 of each page.
func TestAtOfEachAddress(t *testing.T) {
	ids := []int{4, 0, 3, 3, 9, 0, 1, 4}
	x := made(t, ids)
	at := 0
	for page, id := range ids {
		for range 64 {
			if got := x.At(at); got != id || got != x.Of(page) {
				t.Errorf("P5.1: At(%d) = %d, not %d", at, got, id)
			}
			at++
		}
	}
	for ; at < 70000; at++ {
		if got := x.At(at); got != 0 {
			t.Errorf("P5.1: At(%d) = %d, of a page that isn't there", at, got)
		}
	}
}

// TestNothingIsBesidePages gives all pages a number: addresses and pages below the first one and above the last one have none.
func TestNothingIsBesidePages(t *testing.T) {
	x := index.New(4)
	if e := x.Set(6, run(0, 4)); e != api.OK {
		t.Fatalf("P5.1: Set of all pages: %v", e)
	}
	for _, at := range append(numbers(), -127, -100, -62, -50, 255, 256, 257, 319, 320) {
		want := 0
		if at >= 0 && at < 256 {
			want = 6
		}
		if got := x.At(at); got != want {
			t.Errorf("P5.1: At(%d) = %d, not %d", at, got, want)
		}
		want = 0
		if at >= 0 && at < 4 {
			want = 6
		}
		if got := x.Of(at); got != want {
			t.Errorf("P5.1: Of(%d) = %d, not %d", at, got, want)
		}
	}
}

func TestRunsTable(t *testing.T) {
	x := made(t, start())
	for _, c := range []struct {
		id   int
		want []api.Run
	}{
		{2, runs(1, 3, 8, 2)}, {5, runs(4, 1)}, {0, runs(0, 1, 5, 3)}, {1, nil}, {3, nil}, {6, nil}, {-1, nil}, {-2, nil}, {math.MinInt, nil}, {math.MaxInt, nil},
	} {
		if got := x.Runs(c.id); !slices.Equal(got, c.want) {
			t.Errorf("P5.1: Runs(%d) = %v, not %v", c.id, got, c.want)
		}
	}
}

// TestExample is the chapter's.
func TestExample(t *testing.T) {
	x := index.New(8)
	if e := x.Set(3, run(2, 3)); e != api.OK {
		t.Error("P5.1: Set", e)
	}
	if l := x.Runs(0); !slices.Equal(l, runs(0, 2, 5, 3)) {
		t.Error("P5.1: Runs of none", l)
	}
}

// TestRunsGrowTogether gives one number to pages next to one another, by several calls and several runs, and takes it from the middle.
func TestRunsGrowTogether(t *testing.T) {
	x := index.New(12)
	for _, l := range [][]api.Run{runs(8, 2, 2, 1), runs(3, 2), runs(5, 1, 7, 1), runs(6, 1)} {
		if e := x.Set(4, l...); e != api.OK {
			t.Fatalf("P5.1: Set(4, %v): %v", l, e)
		}
	}
	if l := x.Runs(4); !slices.Equal(l, runs(2, 8)) {
		t.Errorf("P5.1: runs that touch aren't one: %v", l)
	}
	if e := x.Drop(runs(5, 1, 4, 1)...); e != api.OK {
		t.Errorf("P5.1: Drop of the middle: %v", e)
	}
	hold(t, x, []int{0, 0, 4, 4, 0, 0, 4, 4, 4, 4, 0, 0}, "Drop of the middle")
	if e := x.Set(6, run(4, 2)); e != api.OK {
		t.Errorf("P5.1: Set of pages that were dropped: %v", e)
	}
	hold(t, x, []int{0, 0, 4, 4, 6, 6, 4, 4, 4, 4, 0, 0}, "Set of pages that were dropped")
	if e := x.Drop(run(2, 8)); e != api.OK {
		t.Errorf("P5.1: Drop of two numbers' pages: %v", e)
	}
	hold(t, x, make([]int, 12), "Drop of all")
}

// some are as many runs that the rule chooses; some of them aren't there, or share pages.
func some(r *rule, pages, most int) []api.Run {
	var l []api.Run
	for range r.below(most + 1) {
		l = append(l, run(r.below(pages+2)-1, r.below(6)))
	}
	return l
}

// TestRowsOfCalls holds rows of calls against numbers that are changed page by page.
func TestRowsOfCalls(t *testing.T) {
	for seed := range 20 {
		r := rule(seed)
		pages := 1 + seed*3
		x, ids := index.New(pages), make([]int, pages)
		for range 1500 {
			l, id := some(&r, pages, 3), r.below(9)-1
			if r.below(2) == 0 {
				want, e := set(ids, id, l)
				if got := x.Set(id, l...); got != e {
					t.Fatalf("P5.1: seed %d: of %v: Set(%d, %v): %v, not %v", seed, ids, id, l, got, e)
				}
				ids = want
			} else {
				want, e := dropped(ids, l)
				if got := x.Drop(l...); got != e {
					t.Fatalf("P5.1: seed %d: of %v: Drop(%v): %v, not %v", seed, ids, l, got, e)
				}
				ids = want
			}
			hold(t, x, ids, "seed", seed, l)
			if x.Pages() != pages {
				t.Fatalf("P5.1: seed %d: %d pages, not %d", seed, x.Pages(), pages)
			}
		}
	}
}

// TestGreatest asks the greatest index at its end.
func TestGreatest(t *testing.T) {
	x, ids := index.New(1024), make([]int, 1024)
	for _, c := range []struct {
		l    []api.Run
		want api.Errno
	}{
		{runs(1024, 1), api.ErrRange}, {runs(1023, 2), api.ErrRange}, {runs(0, 1025), api.ErrRange}, {runs(1, 1024), api.ErrRange}, {runs(0, 1, 1023, 1), api.OK}, {runs(0, 1024), api.ErrState}, {runs(1, 1022), api.OK}, {runs(1023, 1), api.ErrState},
	} {
		want, e := set(ids, 77, c.l)
		if got := x.Set(77, c.l...); got != c.want || e != c.want {
			t.Errorf("P5.1: Set(77, %v): %v, not %v", c.l, got, c.want)
		}
		ids = want
		hold(t, x, ids, "Set", c.l)
	}
	if x.Of(1023) != 77 || x.Of(1024) != 0 || x.At(65535) != 77 || x.At(65536) != 0 || !slices.Equal(x.Runs(77), runs(0, 1024)) || len(x.Runs(0)) != 0 {
		t.Error("P5.1: Of, At or Runs at the greatest index' end")
	}
	if x.Drop(run(0, 1025)) != api.ErrRange || x.Drop(run(512, 512)) != api.OK || !slices.Equal(x.Runs(0), runs(512, 512)) || x.Drop(run(511, 2)) != api.ErrState || x.Drop(run(0, 512)) != api.OK {
		t.Error("P5.1: Drop at the greatest index' end")
	}
	hold(t, x, make([]int, 1024), "Drop of all")
}

// TestManyRuns tells a run of each page, up and down, and one more.
func TestManyRuns(t *testing.T) {
	var up []api.Run
	for page := range 1024 {
		up = append(up, run(page, 1))
	}
	down := slices.Clone(up)
	slices.Reverse(down)
	x := index.New(1024)
	if e := x.Set(5, append(slices.Clone(up), run(500, 1))...); e != api.ErrState {
		t.Errorf("P5.1: Set of all pages, and one of them twice: %v", e)
	}
	hold(t, x, make([]int, 1024), "Set that is refused")
	if e := x.Set(5, down...); e != api.OK || !slices.Equal(x.Runs(5), runs(0, 1024)) {
		t.Errorf("P5.1: Set of each page: %v", e)
	}
	if e := x.Drop(append(slices.Clone(up), run(1023, 2))...); e != api.ErrRange || !slices.Equal(x.Runs(5), runs(0, 1024)) {
		t.Errorf("P5.1, P0.3: Drop of all pages, and one that isn't there: %v", e)
	}
	if e := x.Drop(up...); e != api.OK {
		t.Errorf("P5.1: Drop of each page: %v", e)
	}
	hold(t, x, make([]int, 1024), "Drop of each page")
}

// TestNoPages asks an index without pages, and a nil one, all that an index is asked.
func TestNoPages(t *testing.T) {
	for what, x := range map[string]*index.Index{"nil": nil, "of no pages": index.New(0), "of -3 pages": index.New(-3)} {
		if x.Pages() != 0 {
			t.Errorf("P5.1: %s: %d pages", what, x.Pages())
		}
		for _, n := range numbers() {
			if x.Of(n) != 0 || x.At(n) != 0 || len(x.Runs(n)) != 0 {
				t.Errorf("P5.1: %s: Of, At or Runs of %d", what, n)
			}
			none, some := api.OK, api.ErrRange
			if n < 1 {
				none, some = api.ErrArg, api.ErrArg
			}
			if e := x.Set(n); e != none {
				t.Errorf("P5.1: %s: Set(%d) of no runs: %v, not %v", what, n, e, none)
			}
			for _, r := range []api.Run{{}, run(0, 1), run(0, n), run(n, 0), run(n, 1), run(n, n)} {
				if e := x.Set(n, r); e != some {
					t.Errorf("P5.1: %s: Set(%d, %v): %v, not %v", what, n, r, e, some)
				}
				if e := x.Drop(r); e != api.ErrRange {
					t.Errorf("P5.1: %s: Drop(%v): %v", what, r, e)
				}
				if e := x.Drop(r, r); e != api.ErrRange {
					t.Errorf("P5.1: %s: Drop(%v) twice: %v", what, r, e)
				}
			}
		}
		if e := x.Drop(); e != api.OK {
			t.Errorf("P5.1: %s: Drop of no runs: %v", what, e)
		}
	}
}

// TestAllNumbers hands in all numbers: a panic ends the test, and what isn't there is refused.
func TestAllNumbers(t *testing.T) {
	for _, s := range numbers() {
		index.New(s).Pages()
		for _, n := range numbers() {
			x := made(t, start())
			l := []api.Run{run(s, n)}
			want, e := set(start(), 3, l)
			if got := x.Set(3, l...); got != e {
				t.Errorf("P5.1, P0.1: Set(3, %v): %v, not %v", l, got, e)
			}
			hold(t, x, want, "Set", l)
			x = made(t, start())
			want, e = dropped(start(), l)
			if got := x.Drop(l...); got != e {
				t.Errorf("P5.1, P0.1: Drop(%v): %v, not %v", l, got, e)
			}
			hold(t, x, want, "Drop", l)
			if got := x.Set(n, run(5, 1), run(s, 1)); n < 1 && got != api.ErrArg {
				t.Errorf("P5.1, P0.1: Set(%d): %v", n, got)
			}
		}
	}
}

// TestAllIds gives each number from 1 on, the greatest ones, too, to a page.
func TestAllIds(t *testing.T) {
	for _, id := range numbers() {
		if id < 1 {
			continue
		}
		x := index.New(3)
		if e := x.Set(id, run(1, 1)); e != api.OK || x.Of(1) != id || x.At(64) != id {
			t.Errorf("P5.1: Set(%d): %v, and Of answers %d", id, e, x.Of(1))
		}
		hold(t, x, []int{0, id, 0}, "Set", id)
	}
}

// TestAskingChangesNothing asks an index all that changes nothing.
func TestAskingChangesNothing(t *testing.T) {
	x := made(t, start())
	for _, n := range numbers() {
		x.Pages()
		x.Of(n)
		x.At(n)
		x.Runs(n)
	}
	hold(t, x, start(), "asking")
}

// TestListsAreLeftAndNotKept hands in lists with room behind them, and writes into them afterwards.
func TestListsAreLeftAndNotKept(t *testing.T) {
	for _, drop := range []bool{false, true} {
		x := made(t, start())
		room := runs(5, 1, 7, 1, 0, 1, 99, 9, 2, 1)
		if drop {
			room = runs(8, 2, 1, 1, 4, 1, 99, 9, 2, 1)
		}
		kept := slices.Clone(room)
		call := func(n int) api.Errno {
			if drop {
				return x.Drop(room[:n]...)
			}
			return x.Set(6, room[:n]...)
		}
		for _, n := range []int{5, 4, 0, 3, 3} {
			call(n)
			if !slices.Equal(room, kept) {
				t.Fatalf("P0.4: a call made %v of %v", room, kept)
			}
		}
		before := told(x)
		if slices.Equal(before, start()) {
			t.Fatal("P5.1: the call of three runs is refused")
		}
		clear(room)
		hold(t, x, before, "writing into the runs that were handed in")
	}
}

// TestRunsAreNew writes into runs that are answered, up to the end of their room.
func TestRunsAreNew(t *testing.T) {
	x := made(t, start())
	for _, id := range []int{0, 2, 5, 7} {
		l, other := x.Runs(id), x.Runs(id)
		l = l[:cap(l)]
		for i := range l {
			l[i] = run(99, 99)
		}
		if !slices.Equal(other, gathered(start(), id)) {
			t.Errorf("P0.4: writing into Runs(%d) changes other runs: %v", id, other)
		}
		hold(t, x, start(), "writing into the runs that were answered")
	}
	l := x.Runs(2)
	x.Drop(run(1, 3))
	if !slices.Equal(l, runs(1, 3, 8, 2)) {
		t.Error("P0.4: Drop changes runs that were answered before")
	}
}

// TestNilIsEmpty hands in a nil list and an empty one.
func TestNilIsEmpty(t *testing.T) {
	for _, x := range []*index.Index{nil, index.New(0), made(t, start())} {
		for _, id := range numbers() {
			if a, b := x.Set(id, nil...), x.Set(id, []api.Run{}...); a != b || (a == api.OK) != (id > 0) {
				t.Errorf("P0.5: Set(%d) of nil: %v, of an empty list: %v", id, a, b)
			}
		}
		if a, b := x.Drop(nil...), x.Drop([]api.Run{}...); a != api.OK || b != api.OK {
			t.Errorf("P0.5: Drop of nil: %v, of an empty list: %v", a, b)
		}
	}
}

// TestIndexesAreApart changes one of two indexes.
func TestIndexesAreApart(t *testing.T) {
	x, y := made(t, start()), made(t, start())
	y.Drop(run(1, 4))
	y.Set(9, run(0, 3))
	hold(t, x, start(), "calls to another index")
}

// TestSameAnswersAgain does the same row of calls to two indexes, one behind the other.
func TestSameAnswersAgain(t *testing.T) {
	do := func() []int {
		x := index.New(40)
		r := rule(99)
		var l []int
		for range 2000 {
			l = append(l, int(x.Set(r.below(6), some(&r, 40, 3)...)), int(x.Drop(some(&r, 40, 3)...)))
			for _, c := range x.Runs(r.below(6)) {
				l = append(l, c.Start, c.Len)
			}
		}
		return append(l, told(x)...)
	}
	if !slices.Equal(do(), do()) {
		t.Error("P0.6: the same calls answer otherwise the second time")
	}
}
