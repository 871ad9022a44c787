package ray

import "math/bits"

// root is the square root of a number from 0 on, rounded down.
func root(n int) int {
	if n < 2 {
		return n
	}
	// Newton's steps fall to the root, and stop there, as long as they begin above it.
	r := 1 << ((bits.Len(uint(n)) + 1) / 2)
	for {
		next := (r + n/r) / 2
		if next >= r {
			return r
		}
		r = next
	}
}
