package policy_test

import (
	"math"
	"slices"
	"testing"

	"shoring/api"
	"shoring/policy"
)

// The signatures are exact: another one doesn't compile here.
var (
	_ func(int, int) (int, api.Errno)           = policy.First
	_ func(int, int, int, int) (int, api.Errno) = policy.Grow
	_ func(int, int) (int, bool)                = policy.Shrink
	_ func(...int) bool                         = policy.Limit
)

// highest is the greatest limit, as the chapter tells it.
const highest = 65536

// rule makes numbers one behind the other, that hang on the one it starts with alone.
type rule uint64

// next is the rule's next number.
func (r *rule) next() uint64 {
	*r = *r*6364136223846793005 + 1442695040888963407
	x := uint64(*r)
	return x ^ x>>29
}

// below is a number from 0 to n-1.
func (r *rule) below(n int) int { return int(r.next() >> 1 % uint64(n)) }

// limits are all that may be limits.
func limits() []int {
	return []int{16, 32, 64, 128, 256, 512, 1024, 2048, 4096, 8192, 16384, 32768, 65536}
}

// sizes are all sizes of stacks that an int has: those above the greatest limit, too.
func sizes() []int {
	l := limits()
	for n := 2 * highest; n > 0; n *= 2 {
		l = append(l, n)
	}
	return l
}

// numbers are those around each power of two, quarters and halves and multiples of sizes, their opposites, and both ends of an int.
func numbers() []int {
	l := []int{math.MinInt, math.MinInt + 1, math.MinInt + 16, math.MaxInt - 65536, math.MaxInt - 16, math.MaxInt - 1, math.MaxInt, 0, 24, 48, 96, 192, 320, 65537 + highest}
	for p := 1; p > 0; p *= 2 {
		l = append(l, p-1, p, p+1, -p)
	}
	slices.Sort(l)
	return slices.Compact(l)
}

// isLimit tells whether it may be a limit.
func isLimit(n int) bool { return slices.Contains(limits(), n) }

// slowFirst goes through the limits, the least one first, as all sizes up to a limit are among them.
func slowFirst(words, limit int) (int, api.Errno) {
	if !isLimit(limit) || words < 1 {
		return 0, api.ErrArg
	}
	for _, n := range limits() {
		if n <= limit && words <= n {
			return n, api.OK
		}
	}
	return 0, api.ErrLimit
}

// slowGrow doubles a size, one time behind the other, as the chapter tells it.
func slowGrow(size, used, more, limit int) (int, api.Errno) {
	if !isLimit(limit) || !slices.Contains(sizes(), size) || size > limit || used < 0 || used > size || more < 0 {
		return 0, api.ErrArg
	}
	// Neither is below 0: the sum of both has room in an unsigned number.
	both := uint64(used) + uint64(more)
	if both > uint64(limit) {
		return 0, api.ErrLimit
	}
	for uint64(size) < both {
		size *= 2
	}
	return size, api.OK
}

// slowShrink asks for a quarter by taking the words that are used away four times.
func slowShrink(size, used int) (int, bool) {
	if !slices.Contains(sizes(), size) || size <= 16 || used < 0 {
		return size, false
	}
	left := size
	for range 4 {
		if left < used {
			return size, false
		}
		left -= used
	}
	return size / 2, true
}

func TestLimitTable(t *testing.T) {
	for _, c := range []struct {
		l    []int
		want bool
	}{
		{nil, true}, {[]int{}, true}, {[]int{16}, true}, {[]int{65536}, true}, {limits(), true}, {[]int{64, 64, 64}, true}, {[]int{65536, 16}, true},
		{[]int{0}, false}, {[]int{1}, false}, {[]int{8}, false}, {[]int{15}, false}, {[]int{17}, false}, {[]int{24}, false}, {[]int{48}, false}, {[]int{-16}, false}, {[]int{-65536}, false},
		{[]int{65535}, false}, {[]int{65537}, false}, {[]int{1 << 17}, false}, {[]int{1 << 32}, false}, {[]int{1 << 62}, false}, {[]int{math.MinInt}, false}, {[]int{math.MaxInt}, false},
		{[]int{16, 8}, false}, {[]int{8, 16}, false}, {[]int{16, 131072, 32}, false}, {[]int{3, 5}, false},
	} {
		if got := policy.Limit(c.l...); got != c.want {
			t.Errorf("P18.1: Limit(%v) = %v", c.l, got)
		}
	}
}

// TestLimitEach has each number alone, and those from below 0 to above the greatest limit.
func TestLimitEach(t *testing.T) {
	for _, n := range numbers() {
		if got := policy.Limit(n); got != isLimit(n) {
			t.Errorf("P18.1: Limit(%d) = %v", n, got)
		}
	}
	for n := -300; n <= highest+300; n++ {
		if got := policy.Limit(n); got != isLimit(n) {
			t.Errorf("P18.1: Limit(%d) = %v", n, got)
		}
	}
}

// TestLimitMany has one that is none at each place of a list, which stays as it is, and the room behind its end.
func TestLimitMany(t *testing.T) {
	for _, not := range []int{math.MinInt, -16, 0, 8, 24, 65537, 131072, math.MaxInt} {
		for i := range len(limits()) + 1 {
			l := append(slices.Insert(limits(), i, not), 5, 6, 7)
			kept := slices.Clone(l)
			if policy.Limit(l[:len(l)-3]...) {
				t.Errorf("P18.1: Limit of %d at %d of limits is true", not, i)
			}
			if !slices.Equal(l, kept) {
				t.Fatalf("P0.4: Limit makes %v of %v", l, kept)
			}
		}
	}
}

func TestFirstTable(t *testing.T) {
	for _, c := range []struct {
		words, limit, n int
		e               api.Errno
	}{
		{1, 16, 16, api.OK}, {15, 16, 16, api.OK}, {16, 16, 16, api.OK}, {1, 65536, 16, api.OK}, {5, 64, 16, api.OK}, {17, 32, 32, api.OK}, {17, 64, 32, api.OK}, {22, 64, 32, api.OK}, {32, 64, 32, api.OK}, {33, 64, 64, api.OK}, {64, 64, 64, api.OK}, {1002, 65536, 1024, api.OK}, {1025, 65536, 2048, api.OK}, {32769, 65536, 65536, api.OK}, {65536, 65536, 65536, api.OK},
		{17, 16, 0, api.ErrLimit}, {65, 64, 0, api.ErrLimit}, {65536, 32768, 0, api.ErrLimit}, {65537, 65536, 0, api.ErrLimit}, {1 << 62, 65536, 0, api.ErrLimit}, {math.MaxInt, 65536, 0, api.ErrLimit}, {math.MaxInt, 16, 0, api.ErrLimit},
		{0, 16, 0, api.ErrArg}, {-1, 16, 0, api.ErrArg}, {math.MinInt, 65536, 0, api.ErrArg}, {1, 0, 0, api.ErrArg}, {1, 8, 0, api.ErrArg}, {1, 24, 0, api.ErrArg}, {1, 65, 0, api.ErrArg}, {1, 131072, 0, api.ErrArg}, {1, -64, 0, api.ErrArg}, {1, math.MinInt, 0, api.ErrArg}, {1, math.MaxInt, 0, api.ErrArg},
		// Of two errors the one that is named first.
		{100, 24, 0, api.ErrArg}, {10, 8, 0, api.ErrArg}, {65537, 65537, 0, api.ErrArg}, {math.MaxInt, 1 << 62, 0, api.ErrArg}, {0, 0, 0, api.ErrArg}, {-1, 24, 0, api.ErrArg},
	} {
		if n, e := policy.First(c.words, c.limit); n != c.n || e != c.e {
			t.Errorf("P18.1: First(%d, %d) = %d, %v, not %d, %v", c.words, c.limit, n, e, c.n, c.e)
		}
	}
}

// askFirst holds First against the chapter.
func askFirst(t *testing.T, words, limit int) {
	t.Helper()
	n, e := policy.First(words, limit)
	if want, errno := slowFirst(words, limit); n != want || e != errno {
		t.Fatalf("P18.1: First(%d, %d) = %d, %v, not %d, %v", words, limit, n, e, want, errno)
	}
	if e == api.OK && (!isLimit(n) || n > limit || words > n) {
		t.Fatalf("P18.2: First(%d, %d) = %d", words, limit, n)
	}
}

// TestFirstEach has all numbers of words beside each limit, and each two numbers of some.
func TestFirstEach(t *testing.T) {
	for _, limit := range limits() {
		for words := -20; words <= highest+20; words++ {
			askFirst(t, words, limit)
		}
	}
	for _, limit := range numbers() {
		for _, words := range numbers() {
			askFirst(t, words, limit)
		}
	}
}

// TestExample is the chapter's.
func TestExample(t *testing.T) {
	if n, e := policy.Grow(16, 10, 30, 1024); n != 64 || e != api.OK {
		t.Errorf("P18.1: Grow of the example = %d, %v", n, e)
	}
}

func TestGrowTable(t *testing.T) {
	for _, c := range []struct {
		size, used, more, limit, n int
		e                          api.Errno
	}{
		// Not doubled at all; once; more often.
		{16, 0, 0, 16, 16, api.OK}, {16, 16, 0, 16, 16, api.OK}, {16, 10, 6, 64, 16, api.OK}, {64, 0, 1, 64, 64, api.OK}, {64, 1, 2, 64, 64, api.OK}, {256, 0, 0, 65536, 256, api.OK}, {65536, 65536, 0, 65536, 65536, api.OK}, {65536, 0, 65536, 65536, 65536, api.OK},
		{16, 10, 7, 64, 32, api.OK}, {16, 16, 1, 64, 32, api.OK}, {16, 15, 5, 64, 32, api.OK}, {32, 32, 32, 64, 64, api.OK}, {32768, 32768, 1, 65536, 65536, api.OK},
		{16, 16, 48, 64, 64, api.OK}, {16, 10, 30, 64, 64, api.OK}, {16, 3, 1002, 65536, 1024, api.OK}, {16, 0, 65536, 65536, 65536, api.OK}, {16, 16, 65520, 65536, 65536, api.OK}, {16, 0, 32769, 65536, 65536, api.OK},
		{16, 0, 17, 16, 0, api.ErrLimit}, {16, 16, 1, 16, 0, api.ErrLimit}, {16, 16, 49, 64, 0, api.ErrLimit}, {64, 64, 1, 64, 0, api.ErrLimit}, {64, 0, 65, 64, 0, api.ErrLimit}, {65536, 65536, 1, 65536, 0, api.ErrLimit}, {16, 1, 65536, 65536, 0, api.ErrLimit}, {16, 3, 1<<62 + 1<<61, 64, 0, api.ErrLimit},
		{16, 0, math.MaxInt, 65536, 0, api.ErrLimit}, {16, 16, math.MaxInt, 16, 0, api.ErrLimit}, {65536, 65536, math.MaxInt, 65536, 0, api.ErrLimit}, {16, 16, math.MaxInt - 15, 64, 0, api.ErrLimit}, {65536, 65536, math.MaxInt - 65535, 65536, 0, api.ErrLimit},
		// The limit may be none.
		{16, 0, 0, 0, 0, api.ErrArg}, {16, 0, 0, 24, 0, api.ErrArg}, {16, 0, 0, 65, 0, api.ErrArg}, {16, 0, 0, 131072, 0, api.ErrArg}, {16, 0, 0, -16, 0, api.ErrArg}, {16, 0, 0, math.MaxInt, 0, api.ErrArg}, {16, 0, 0, math.MinInt, 0, api.ErrArg}, {8, 0, 0, 8, 0, api.ErrArg}, {131072, 0, 0, 131072, 0, api.ErrArg},
		// The size is none, or above the limit.
		{0, 0, 0, 64, 0, api.ErrArg}, {1, 0, 0, 64, 0, api.ErrArg}, {8, 0, 0, 64, 0, api.ErrArg}, {24, 0, 0, 64, 0, api.ErrArg}, {63, 0, 0, 64, 0, api.ErrArg}, {-16, 0, 0, 64, 0, api.ErrArg}, {128, 0, 1, 64, 0, api.ErrArg}, {32, 0, 0, 16, 0, api.ErrArg}, {131072, 0, 0, 65536, 0, api.ErrArg}, {1 << 62, 0, 0, 65536, 0, api.ErrArg}, {math.MaxInt, 0, 0, 65536, 0, api.ErrArg}, {math.MinInt, 0, 0, 65536, 0, api.ErrArg},
		// More is used than there is, or less than nothing, or less than nothing is to be more.
		{16, 17, 0, 64, 0, api.ErrArg}, {16, 64, 0, 64, 0, api.ErrArg}, {16, -1, 0, 64, 0, api.ErrArg}, {16, -1, 1, 64, 0, api.ErrArg}, {16, 0, -1, 64, 0, api.ErrArg}, {16, 10, -1, 64, 0, api.ErrArg}, {16, math.MinInt, math.MaxInt, 64, 0, api.ErrArg}, {16, math.MaxInt, math.MaxInt, 64, 0, api.ErrArg}, {16, 16, math.MinInt, 64, 0, api.ErrArg},
		// Of two errors the one that is named first.
		{16, 0, 100, 24, 0, api.ErrArg}, {24, 0, 100, 64, 0, api.ErrArg}, {128, 128, 0, 64, 0, api.ErrArg}, {16, 17, 100, 64, 0, api.ErrArg}, {16, -1, 100, 64, 0, api.ErrArg}, {128, 0, math.MaxInt, 64, 0, api.ErrArg},
	} {
		if n, e := policy.Grow(c.size, c.used, c.more, c.limit); n != c.n || e != c.e {
			t.Errorf("P18.1: Grow(%d, %d, %d, %d) = %d, %v, not %d, %v", c.size, c.used, c.more, c.limit, n, e, c.n, c.e)
		}
	}
}

// askGrow holds Grow against the chapter.
func askGrow(t *testing.T, size, used, more, limit int) {
	t.Helper()
	n, e := policy.Grow(size, used, more, limit)
	if want, errno := slowGrow(size, used, more, limit); n != want || e != errno {
		t.Fatalf("P18.1: Grow(%d, %d, %d, %d) = %d, %v, not %d, %v", size, used, more, limit, n, e, want, errno)
	}
	if e == api.OK && (!isLimit(n) || n > limit || n < size || used+more > n) {
		t.Fatalf("P18.2: Grow(%d, %d, %d, %d) = %d", size, used, more, limit, n)
	}
}

// TestGrowSmall has small sizes and limits, and what is none, and all numbers around them.
func TestGrowSmall(t *testing.T) {
	for _, limit := range []int{8, 15, 16, 17, 32, 33, 48, 64, 65} {
		for _, size := range []int{8, 15, 16, 17, 31, 32, 33, 48, 63, 64, 65} {
			for used := -1; used <= 66; used++ {
				for more := -1; more <= 66; more++ {
					askGrow(t, size, used, more, limit)
				}
			}
		}
	}
}

// TestGrowEdges has each limit, and each size, and what is used and more such that both together are at a power of two, or beside it.
func TestGrowEdges(t *testing.T) {
	sums := numbers()
	for _, limit := range limits() {
		for _, size := range limits() {
			for _, used := range []int{0, 1, 2, 15, 16, 17, size / 4, size/2 + 1, size - 1, size, size + 1} {
				for _, both := range sums {
					for d := -1; d <= 1; d++ {
						askGrow(t, size, used, both-used+d, limit)
					}
				}
			}
		}
	}
}

// TestGrowEach has each number at each place, beside ordinary ones, and beside each other one.
func TestGrowEach(t *testing.T) {
	for _, n := range numbers() {
		for _, m := range numbers() {
			askGrow(t, n, 10, 30, m)
			askGrow(t, n, m, 30, 1024)
			askGrow(t, n, 10, m, 65536)
			askGrow(t, 64, n, m, 1024)
			askGrow(t, 16, 16, n, m)
			askGrow(t, 16, n, 0, m)
		}
	}
}

// TestGrowMany has many numbers that may be, and some that may not.
func TestGrowMany(t *testing.T) {
	r := rule(23)
	met := map[api.Errno]int{}
	for range 500000 {
		limit := limits()[r.below(13)]
		size := min(limits()[r.below(13)], limit<<r.below(2))
		used := r.below(size + 2)
		more := r.below(limit + limit/4)
		askGrow(t, size, used, more, limit)
		_, e := policy.Grow(size, used, more, limit)
		met[e]++
	}
	for _, e := range []api.Errno{api.OK, api.ErrArg, api.ErrLimit} {
		if met[e] < 1000 {
			t.Errorf("of many numbers: %v", met)
		}
	}
}

func TestShrinkTable(t *testing.T) {
	for _, c := range []struct {
		size, used, n int
		ok            bool
	}{
		{32, 0, 16, true}, {32, 7, 16, true}, {32, 8, 16, true}, {32, 9, 32, false}, {64, 16, 32, true}, {64, 17, 64, false}, {256, 64, 128, true}, {256, 65, 256, false}, {65536, 16384, 32768, true}, {65536, 16385, 65536, false},
		// Above each limit, too: only a size of a stack is asked for.
		{131072, 32768, 65536, true}, {131072, 32769, 131072, false}, {1 << 62, 1 << 60, 1 << 61, true}, {1 << 62, 1<<60 + 1, 1 << 62, false}, {1 << 62, 0, 1 << 61, true},
		{16, 0, 16, false}, {16, 4, 16, false}, {16, 16, 16, false}, {64, 64, 64, false}, {64, 65, 64, false}, {64, -1, 64, false}, {64, math.MinInt, 64, false}, {64, math.MaxInt, 64, false},
		// No size of a stack: as it is.
		{0, 0, 0, false}, {1, 0, 1, false}, {8, 0, 8, false}, {15, 0, 15, false}, {17, 0, 17, false}, {31, 0, 31, false}, {48, 0, 48, false}, {96, 3, 96, false}, {-16, 0, -16, false}, {-64, -64, -64, false}, {-64, 0, -64, false}, {math.MinInt, 0, math.MinInt, false}, {math.MinInt, math.MinInt, math.MinInt, false}, {math.MaxInt, 0, math.MaxInt, false},
	} {
		if n, ok := policy.Shrink(c.size, c.used); n != c.n || ok != c.ok {
			t.Errorf("P18.1: Shrink(%d, %d) = %d, %v, not %d, %v", c.size, c.used, n, ok, c.n, c.ok)
		}
	}
}

// askShrink holds Shrink against the chapter.
func askShrink(t *testing.T, size, used int) {
	t.Helper()
	n, ok := policy.Shrink(size, used)
	if want, shrunk := slowShrink(size, used); n != want || ok != shrunk {
		t.Fatalf("P18.1: Shrink(%d, %d) = %d, %v, not %d, %v", size, used, n, ok, want, shrunk)
	}
	if ok && (!slices.Contains(sizes(), n) || n != size/2 || used > n-used) {
		t.Fatalf("P18.2: Shrink(%d, %d) = %d", size, used, n)
	}
}

// TestShrinkEach has all small numbers, each two numbers of some, and each size with what is around a quarter of it.
func TestShrinkEach(t *testing.T) {
	for size := -20; size <= 600; size++ {
		for used := -20; used <= 600; used++ {
			askShrink(t, size, used)
		}
	}
	for _, size := range numbers() {
		for _, used := range numbers() {
			askShrink(t, size, used)
		}
	}
	for _, size := range sizes() {
		for d := -9; d <= 9; d++ {
			askShrink(t, size, size/4+d)
		}
	}
}

// TestGrownAndShrunk has stacks that grow by what is more, and are shrunk till that isn't told any more: what is used fits into each.
func TestGrownAndShrunk(t *testing.T) {
	for used := range highest + 1 {
		grown, e := policy.Grow(16, 0, used, highest)
		first, _ := policy.First(max(used, 1), highest)
		if e != api.OK || grown != first {
			t.Fatalf("P18.1: Grow by %d = %d, %v, where First is %d", used, grown, e, first)
		}
		size, ok := highest, true
		for ok {
			size, ok = policy.Shrink(size, used)
		}
		if size < grown || size > 16 && used <= size/4 {
			t.Fatalf("P18.2: shrunk while %d words are used: %d", used, size)
		}
	}
}
