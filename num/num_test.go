package num_test

import (
	"math"
	"slices"
	"testing"

	"shoring/num"
)

// The signatures are exact: another one doesn't compile here.
var (
	_ func(int) int      = num.Log
	_ func(int) int      = num.Up
	_ func(...int) bool  = num.Is
	_ func(int, int) int = num.Div
	_ func(int) int      = num.Order
)

// powers are all powers of two that an int has, rising.
func powers() []int {
	l := []int{1}
	for i := 1; i <= 62; i++ {
		l = append(l, 2*l[i-1])
	}
	return l
}

// numbers are ordinary ones, those around each power of two and its opposite, and both ends.
func numbers() []int {
	l := []int{math.MinInt, math.MinInt + 1, math.MaxInt - 1, math.MaxInt}
	for n := -300; n <= 5000; n++ {
		l = append(l, n)
	}
	for _, p := range powers() {
		for d := -3; d <= 3; d++ {
			l = append(l, p+d, d-p)
		}
	}
	return l
}

// slowLog doubles 1, as the document tells it.
func slowLog(n int) int {
	log := -1
	for _, p := range powers() {
		if p <= n {
			log++
		}
	}
	return log
}

// slowUp looks for it in the row of all powers.
func slowUp(n int) int {
	for _, p := range powers() {
		if p >= n {
			return p
		}
	}
	return 0
}

func slowOrder(words int) int {
	return slices.Index([]int{16, 32, 64, 128}, words)
}

func TestLogTable(t *testing.T) {
	for _, c := range []struct{ n, want int }{
		{math.MinInt, -1}, {-1, -1}, {0, -1}, {1, 0}, {2, 1}, {3, 1}, {4, 2}, {7, 2}, {8, 3},
		{1<<62 - 1, 61}, {1 << 62, 62}, {1<<62 + 1, 62}, {math.MaxInt, 62},
	} {
		if got := num.Log(c.n); got != c.want {
			t.Errorf("P1.1: Log(%d) = %d, not %d", c.n, got, c.want)
		}
	}
}

func TestUpTable(t *testing.T) {
	for _, c := range []struct{ n, want int }{
		{math.MinInt, 1}, {math.MinInt + 1, 1}, {-1, 1}, {0, 1}, {1, 1}, {2, 2}, {3, 4}, {4, 4}, {5, 8}, {17, 32},
		{1<<61 + 1, 1 << 62}, {1<<62 - 1, 1 << 62}, {1 << 62, 1 << 62}, {1<<62 + 1, 0}, {math.MaxInt, 0},
	} {
		if got := num.Up(c.n); got != c.want {
			t.Errorf("P1.1: Up(%d) = %d, not %d", c.n, got, c.want)
		}
	}
}

func TestOrderTable(t *testing.T) {
	for _, c := range []struct{ words, want int }{
		{math.MinInt, -1}, {-16, -1}, {0, -1}, {1, -1}, {8, -1}, {15, -1}, {16, 0}, {17, -1}, {31, -1}, {32, 1},
		{48, -1}, {64, 2}, {96, -1}, {127, -1}, {128, 3}, {129, -1}, {256, -1}, {1 << 62, -1}, {math.MaxInt, -1},
	} {
		if got := num.Order(c.words); got != c.want {
			t.Errorf("P1.1: Order(%d) = %d, not %d", c.words, got, c.want)
		}
	}
}

func TestAllNumbers(t *testing.T) {
	for _, n := range numbers() {
		if got, want := num.Log(n), slowLog(n); got != want {
			t.Errorf("P1.1: Log(%d) = %d, not %d", n, got, want)
		}
		if got, want := num.Up(n), slowUp(n); got != want {
			t.Errorf("P1.1: Up(%d) = %d, not %d", n, got, want)
		}
		if got, want := num.Order(n), slowOrder(n); got != want {
			t.Errorf("P1.1: Order(%d) = %d, not %d", n, got, want)
		}
		if got, want := num.Is(n), slices.Contains(powers(), n); got != want {
			t.Errorf("P1.1: Is(%d) = %v, not %v", n, got, want)
		}
	}
}

func TestUpIsTheNextPower(t *testing.T) {
	for _, n := range numbers() {
		up := num.Up(n)
		if n < 1 || n > 1<<62 {
			continue
		}
		if !slices.Contains(powers(), up) {
			t.Errorf("P1.2: Up(%d) = %d, no power of two", n, up)
		}
		// up - n < n, as 2 * n may be above the greatest int.
		if up < n || up-n >= n {
			t.Errorf("P1.2: Up(%d) = %d, not from the number to less than twice of it", n, up)
		}
	}
}

func TestIsLists(t *testing.T) {
	for _, c := range []struct {
		l    []int
		want bool
	}{
		{nil, true}, {[]int{}, true}, {[]int{1}, true}, {[]int{2}, true}, {powers(), true}, {[]int{4, 4, 4}, true},
		{[]int{0}, false}, {[]int{3}, false}, {[]int{-1}, false}, {[]int{-8}, false},
		{[]int{math.MinInt}, false}, {[]int{math.MaxInt}, false},
		{[]int{0, 1, 2}, false}, {[]int{1, 6, 2}, false}, {[]int{1, 2, -4}, false}, {[]int{3, 5}, false},
	} {
		if got := num.Is(c.l...); got != c.want {
			t.Errorf("P1.1: Is(%v) = %v, not %v", c.l, got, c.want)
		}
	}
}

func TestIsFindsOneWherever(t *testing.T) {
	for i := range powers() {
		l := powers()
		l[i] = 12
		if num.Is(l...) {
			t.Errorf("P1.1: Is of 12 at %d of powers of two: true", i)
		}
	}
}

func TestDivTable(t *testing.T) {
	for _, c := range []struct{ n, by, want int }{
		{1, 1, 1}, {10, 4, 3}, {8, 4, 2}, {9, 4, 3}, {3, 4, 1}, {4, 4, 1}, {5, 4, 2},
		{0, 4, 0}, {4, 0, 0}, {0, 0, 0}, {-1, 4, 0}, {4, -1, 0}, {-8, -4, 0},
		{math.MinInt, -1, 0}, {math.MinInt, 1, 0}, {math.MinInt, math.MinInt, 0}, {1, math.MinInt, 0},
		{math.MaxInt, 1, math.MaxInt}, {math.MaxInt, 2, 1 << 62}, {math.MaxInt, math.MaxInt, 1},
		{math.MaxInt - 1, math.MaxInt, 1}, {math.MaxInt, math.MaxInt - 1, 2}, {1, math.MaxInt, 1},
		{1 << 62, 1, 1 << 62}, {1 << 62, 1 << 62, 1}, {1<<62 + 1, 1 << 62, 2},
	} {
		if got := num.Div(c.n, c.by); got != c.want {
			t.Errorf("P1.1: Div(%d, %d) = %d, not %d", c.n, c.by, got, c.want)
		}
	}
}

func TestDivAll(t *testing.T) {
	for n := -20; n <= 300; n++ {
		for by := -20; by <= 100; by++ {
			want := 0
			if n > 0 && by > 0 {
				for want*by < n {
					want++
				}
			}
			if got := num.Div(n, by); got != want {
				t.Errorf("P1.1: Div(%d, %d) = %d, not %d", n, by, got, want)
			}
		}
	}
}

// TestNothingPanics hands in every number beside every other: a panic ends the test.
func TestNothingPanics(t *testing.T) {
	ends := []int{math.MinInt, math.MinInt + 1, -1 << 62, -1, 0, 1, 2, 1 << 62, math.MaxInt - 1, math.MaxInt}
	for _, n := range ends {
		num.Log(n)
		num.Up(n)
		num.Order(n)
		for _, by := range ends {
			num.Is(n, by)
			if q := num.Div(n, by); q < 0 {
				t.Errorf("P0.1: Div(%d, %d) = %d", n, by, q)
			}
		}
	}
}

func TestIsLeavesItsList(t *testing.T) {
	room := []int{8, 3, 4, 77, 0}
	kept := slices.Clone(room)
	num.Is(room[:3]...)
	if !slices.Equal(room, kept) {
		t.Errorf("P0.4: Is made %v of %v", room, kept)
	}
}

// TestSameAnswerAgain asks twice, with other calls in between: nothing is kept.
func TestSameAnswerAgain(t *testing.T) {
	ask := func() []int {
		var l []int
		for _, n := range numbers() {
			l = append(l, num.Log(n), num.Up(n), num.Order(n), num.Div(n, 3))
			if num.Is(n, 4) {
				l = append(l, n)
			}
		}
		return l
	}
	if !slices.Equal(ask(), ask()) {
		t.Error("P0.6: the same calls answer otherwise the second time")
	}
}
