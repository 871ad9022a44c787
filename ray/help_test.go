package ray_test

import (
	"math/big"
	"slices"
	"testing"

	"couplant/api"
)

const (
	greatest = int(^uint(0) >> 1)
	smallest = -greatest - 1
)

// want compares a result and its error with those that are promised.
func want[T comparable](t *testing.T, what string, got T, e api.Errno, right T, f api.Errno) {
	t.Helper()
	if got != right || e != f {
		t.Errorf("%s: %v, error %d; want %v, error %d", what, got, e, right, f)
	}
}

// wantList does so for lists: an empty list is one that is nil.
func wantList[T comparable](t *testing.T, what string, got []T, e api.Errno, right []T, f api.Errno) {
	t.Helper()
	if !slices.Equal(got, right) || e != f {
		t.Errorf("%s: %v, error %d; want %v, error %d", what, got, e, right, f)
	}
}

// wantError compares errors alone.
func wantError(t *testing.T, what string, e, f api.Errno) {
	t.Helper()
	if e != f {
		t.Errorf("%s: error %d; want %d", what, e, f)
	}
}

// dice are numbers that are the same in each run.
type dice struct{ x uint64 }

// from rolls a number from least to most.
func (d *dice) from(least, most int) int {
	d.x = d.x*6364136223846793005 + 1442695040888963407
	return least + int((d.x>>33)%uint64(most-least+1))
}

// cross rolls a crossing whose places are up to wide and whose heights are up to high.
func (d *dice) cross(wide, high int) api.RayCross {
	return api.RayCross{
		X1: d.from(-wide, wide), H1: d.from(1, high), V1: d.from(api.LeastSpeed, api.MaxSpeed),
		X2: d.from(-wide, wide), H2: d.from(1, high), V2: d.from(api.LeastSpeed, api.MaxSpeed),
	}
}

// mode rolls a mode, and a way of it.
func (d *dice) mode(wide int) (api.RayMode, api.Spot, api.Spot) {
	m := api.RayMode{
		Wedge: d.from(api.LeastSpeed, api.MaxSpeed), Metal: d.from(api.LeastSpeed, api.MaxSpeed),
		Skips: d.from(0, api.MaxSkips), Thick: d.from(2, 3000),
	}
	from := api.Spot{X: d.from(-wide, wide), Z: d.from(-3000, -1)}
	return m, from, api.Spot{X: d.from(-wide, wide), Z: d.from(1, m.Thick-1)}
}

func number(n int) *big.Int { return big.NewInt(int64(n)) }

// product multiplies numbers of any size.
func product(l ...int) *big.Int {
	p := number(1)
	for _, n := range l {
		p.Mul(p, number(n))
	}
	return p
}

// divided is num / den, rounded down and up.
func divided(num *big.Int, den int) api.Range {
	rest := new(big.Int)
	low, _ := new(big.Int).DivMod(num, number(den), rest)
	r := api.Range{Lo: int(low.Int64()), Hi: int(low.Int64())}
	if rest.Sign() > 0 {
		r.Hi++
	}
	return r
}

// rightLength is the length of a leg as the chapter defines it.
func rightLength(across, down int) api.Range {
	square := new(big.Int).Add(product(across, across, 1000000), product(down, down, 1000000))
	low := new(big.Int).Sqrt(square)
	r := api.Range{Lo: int(low.Int64()), Hi: int(low.Int64())}
	if new(big.Int).Mul(low, low).Cmp(square) < 0 {
		r.Hi++
	}
	return r
}

// rightTime is the time of a leg as the chapter defines it.
func rightTime(across, down, speed int) api.Range {
	l := rightLength(across, down)
	return api.Range{Lo: divided(product(l.Lo, 10000), speed).Lo, Hi: divided(product(l.Hi, 10000), speed).Hi}
}

// rightTimeAt is the time at a place of a crossing as the chapter defines it.
func rightTimeAt(x api.RayCross, at int) api.Range {
	a, b := rightTime(at-x.X1, x.H1, x.V1), rightTime(x.X2-at, x.H2, x.V2)
	return api.Range{Lo: a.Lo + b.Lo, Hi: a.Hi + b.Hi}
}

// rightSlope is the sign of the slope, with the squares of both terms as they stand in the chapter, signs kept.
func rightSlope(x api.RayCross, at int) int {
	a, b := at-x.X1, x.X2-at
	first := product(a, abs(a), x.V2, x.V2)
	first.Mul(first, new(big.Int).Add(product(b, b), product(x.H2, x.H2)))
	second := product(b, abs(b), x.V1, x.V1)
	second.Mul(second, new(big.Int).Add(product(a, a), product(x.H1, x.H1)))
	return first.Cmp(second)
}

// rightPlace is the crossing of least time, looked for from the greatest place downwards.
func rightPlace(x api.RayCross) int {
	at := max(x.X1, x.X2)
	for rightSlope(x, at) > 0 {
		at--
	}
	return at
}

// rightLeast is the least time as the chapter defines it, from the crossing of least time.
func rightLeast(x api.RayCross, k int) api.Range {
	t := rightTimeAt(x, k)
	if k+1 <= max(x.X1, x.X2) {
		next := rightTimeAt(x, k+1)
		t = api.Range{Lo: min(t.Lo, next.Lo), Hi: min(t.Hi, next.Hi)}
	}
	bound := divided(number(10000000), x.V1*x.H1).Hi + divided(number(10000000), x.V2*x.H2).Hi
	return api.Range{Lo: max(0, t.Lo-bound), Hi: t.Hi}
}

func abs(n int) int { return max(n, -n) }

func meet(a, b api.Range) bool { return a.Lo <= b.Hi && b.Lo <= a.Hi }
