package base

import (
	"cmp"
	"math"
	"math/bits"

	"couplant/api"
)

// Within tells whether a number is from least to most.
func Within(n, least, most int) bool { return least <= n && n <= most }

// DividedDown is n / by, rounded down; by is above 0.
func DividedDown(n, by int) int {
	q := n / by
	if n%by < 0 {
		q--
	}
	return q
}

// DividedUp is n / by, rounded up; by is above 0.
func DividedUp(n, by int) int { return -DividedDown(-n, by) }

// Rounded is n / by, rounded to the nearest whole number, halves up; by is above 0.
func Rounded(n, by int) int { return DividedDown(2*n+by, 2*by) }

// RootDown is the square root of a number from 0 on, rounded down.
func RootDown(n int) int {
	if n < 2 {
		return n
	}
	// Newton's steps fall to the root, and stop there, as long as they begin above it.
	r := 1 << ((bits.Len(uint(n)) + 1) / 2)
	for {
		next := (r + n/r) / 2
		if next >= r {
			return r
		}
		r = next
	}
}

// RootUp is the square root of a number from 0 on, rounded up.
func RootUp(n int) int {
	r := RootDown(n)
	if r*r < n {
		r++
	}
	return r
}

// Size is a number without its sign.
func Size(n int) int {
	if n < 0 {
		return -n
	}
	return n
}

// ComparedProducts is the sign of a b less c d, whatever their size; none of them is below 0.
func ComparedProducts(a, b, c, d int) int {
	abHigh, abLow := bits.Mul64(uint64(a), uint64(b))
	cdHigh, cdLow := bits.Mul64(uint64(c), uint64(d))
	return cmp.Or(cmp.Compare(abHigh, cdHigh), cmp.Compare(abLow, cdLow))
}

// IsWhole tells whether a float is a whole number.
func IsWhole(f float64) bool {
	// What is no number is not the same as its whole part; what is infinite is.
	return f == math.Trunc(f) && !math.IsInf(f, 0)
}

// CommonDivisor is the greatest common divisor of two numbers; b is above 0.
func CommonDivisor(a, b int) int {
	for b != 0 {
		a, b = b, a%b
	}
	return Size(a)
}

// Lowest is a fraction in lowest terms; den is above 0.
func Lowest(num, den int) api.Frac {
	g := CommonDivisor(num, den)
	return api.Frac{Num: num / g, Den: den / g}
}
