package ray

import (
	"cmp"
	"math/bits"

	"couplant/api"
)

// root is the square root of a number from 0 on, rounded down.
func root(n int) int {
	if n < 2 {
		return n
	}
	// Newton's steps fall to the root, and stop there, as long as they begin above it.
	r := 1 << ((bits.Len(uint(n)) + 1) / 2)
	for {
		next := (r + n/r) / 2
		if next >= r {
			return r
		}
		r = next
	}
}

// dividedDown is n / by, rounded down; by is above 0.
func dividedDown(n, by int) int {
	q := n / by
	if n%by < 0 {
		q--
	}
	return q
}

// dividedUp is n / by, rounded up; by is above 0.
func dividedUp(n, by int) int { return -dividedDown(-n, by) }

// size is a number without its sign.
func size(n int) int {
	if n < 0 {
		return -n
	}
	return n
}

// commonDivisor is the greatest common divisor of two numbers; b is above 0.
func commonDivisor(a, b int) int {
	for b != 0 {
		a, b = b, a%b
	}
	return size(a)
}

// lowest is a fraction in lowest terms; den is above 0.
func lowest(num, den int) api.Frac {
	g := commonDivisor(num, den)
	return api.Frac{Num: num / g, Den: den / g}
}

// compareProducts is the sign of a b less c d, whatever their size.
func compareProducts(a, b, c, d int) int {
	abHigh, abLow := bits.Mul64(uint64(a), uint64(b))
	cdHigh, cdLow := bits.Mul64(uint64(c), uint64(d))
	return cmp.Or(cmp.Compare(abHigh, cdHigh), cmp.Compare(abLow, cdLow))
}
