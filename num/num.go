// Package num is layer 1: see shared/doc/01-num.md.
package num

import (
	"math/bits"
	"slices"

	"shoring/api"
)

// The logarithm of the greatest power of two that an int has.
const highest = 62

// Log is how often 1 may be doubled till it would be above a number; -1, if there is no such count.
func Log(n int) int {
	if n < 1 {
		return -1
	}
	return bits.Len(uint(n)) - 1
}

// Up is the least power of two that isn't below a number; 0, if an int doesn't have it.
func Up(n int) int {
	// Ahead of the subtraction: the least int would wrap round.
	if n < 1 {
		return 1
	}
	log := Log(n-1) + 1
	if log > highest {
		return 0
	}
	return 1 << log
}

// Is tells whether all numbers are powers of two.
func Is(l ...int) bool {
	return !slices.ContainsFunc(l, func(n int) bool {
		return n < 1 || n&(n-1) != 0
	})
}

// Div is a number divided, rounded up; 0, if one of both is below 1.
func Div(n, by int) int {
	if n < 1 || by < 1 {
		return 0
	}
	// Not (n + by - 1) / by: that sum may be above the greatest int.
	return (n-1)/by + 1
}

// Order is which of the small stacks' sizes it is; -1, if it is none.
func Order(words int) int {
	for order := range api.Orders {
		if words == api.MinStack<<order {
			return order
		}
	}
	return -1
}
