package trace_test

import (
	"math/big"
	"testing"

	"couplant/api"
	"couplant/trace"
)

func TestP3_4Added(t *testing.T) {
	for _, x := range []struct {
		a, b, right api.Trace
		e           api.Errno
	}{
		{spike(3, 5), spike(3, 7), spike(3, 12), api.OK},
		{spike(3, 5), spike(3, -5), api.Trace{}, api.OK},
		{level(minus()), level(minus()), api.Trace{}, api.OK},
		{level(minus()), api.Trace{}, api.Trace{}, api.OK},
		{level(2046), level(1), level(2047), api.OK},
		{level(-2046), level(-1), level(-2047), api.OK},
		{level(2047), level(-2047), api.Trace{}, api.OK},
		{spike(63, 2047), spike(63, 1), api.Trace{}, api.ErrLarge},
		{spike(0, -2047), spike(0, -1), api.Trace{}, api.ErrLarge},
		{level(2047), level(2047), api.Trace{}, api.ErrLarge},
	} {
		got, e := trace.Added(x.a, x.b)
		want(t, "Added", got, e, x.right, x.e)
		got, e = trace.Added(x.b, x.a)
		want(t, "Added in the other order", got, e, x.right, x.e)
	}
}

func TestP3_4Shifted(t *testing.T) {
	d := newDice(7)
	long := d.trace(api.MaxSample)
	for by := -64; by <= 64; by++ {
		var right api.Trace
		for k := range right {
			if k-by >= 0 && k-by < 64 {
				right[k] = long[k-by]
			}
		}
		got, e := trace.Shifted(long, by)
		want(t, "Shifted", got, e, right, api.OK)
	}
	for _, by := range []int{-64, -5, 0, 5, 64} {
		got, e := trace.Shifted(level(minus()), by)
		want(t, "Shifted of -0", got, e, api.Trace{}, api.OK)
	}
	for _, by := range []int{-64, 64} {
		got, e := trace.Shifted(level(7), by)
		want(t, "Shifted by all", got, e, api.Trace{}, api.OK)
	}
	got, e := trace.Shifted(spike(60, 5), 3)
	want(t, "Shifted to the end", got, e, spike(63, 5), api.OK)
	got, e = trace.Shifted(spike(3, 5), -3)
	want(t, "Shifted to the beginning", got, e, spike(0, 5), api.OK)
	for _, by := range []int{-65, 65, smallest, greatest} {
		got, e := trace.Shifted(level(7), by)
		want(t, "Shifted by too much", got, e, api.Trace{}, api.ErrRange)
	}
}

func TestP3_4Gained(t *testing.T) {
	for _, x := range []struct {
		sample   float32
		num, den int
		right    float32
		cuts     int
	}{
		{1500, 3, 2, 2047, 64},
		{-1500, 3, 2, -2047, 64},
		{-3, 1, 2, -1, 0},
		{3, 1, 2, 2, 0},
		{-1, 1, 2, 0, 0},
		{-1, 1, 1000, 0, 0},
		{1, 499, 1000, 0, 0},
		{1, 501, 1000, 1, 0},
		{-1, 501, 1000, -1, 0},
		{7, 1, 1, 7, 0},
		{minus(), 3, 2, 0, 0},
		{-2047, 0, 1, 0, 0},
		{2047, 1, 1, 2047, 0},
		{-2047, 1, 1, -2047, 0},
		{2047, 1000, 1, 2047, 64},
		{1, 1000, 1, 1000, 0},
		// 2047.5 is rounded to 2048 and cut, -2047.5 to -2047, and 2047.16 to 2047.
		{1365, 3, 2, 2047, 64},
		{-1365, 3, 2, -2047, 0},
		{839, 122, 50, 2047, 0},
		{1023, 2, 1, 2046, 0},
		{-1024, 2, 1, -2047, 64},
	} {
		g := big.NewRat(int64(x.num), int64(x.den))
		gain := api.Frac{Num: int(g.Num().Int64()), Den: int(g.Denom().Int64())}
		got, cuts, e := trace.Gained(level(x.sample), gain)
		want(t, "Gained", got, e, level(x.right), api.OK)
		want(t, "the cuts", cuts, e, x.cuts, api.OK)
	}
	got, cuts, e := trace.Gained(spike(63, 1500), api.Frac{Num: 3, Den: 2})
	want(t, "Gained of one", got, e, spike(63, 2047), api.OK)
	want(t, "one cut", cuts, e, 1, api.OK)
}

func TestP3_4GainedErrors(t *testing.T) {
	for _, x := range []struct {
		num, den int
		right    api.Errno
	}{
		{0, 0, api.ErrForm}, {1, 0, api.ErrForm}, {0, 2, api.ErrForm}, {2, 4, api.ErrForm}, {-2, 4, api.ErrForm}, {1, -2, api.ErrForm}, {-1, -2, api.ErrForm},
		{2000, 2, api.ErrForm}, {smallest, smallest, api.ErrForm}, {smallest, -1, api.ErrForm}, {smallest, 2, api.ErrForm}, {greatest, greatest, api.ErrForm},
		{-1, 2, api.ErrRange}, {1001, 1, api.ErrRange}, {1, 1001, api.ErrRange}, {1001, 1002, api.ErrRange}, {-1, 1001, api.ErrRange},
		{smallest, 1, api.ErrRange}, {greatest, 1, api.ErrRange}, {1, greatest, api.ErrRange}, {smallest, greatest, api.ErrRange},
	} {
		got, cuts, e := trace.Gained(level(2000), api.Frac{Num: x.num, Den: x.den})
		want(t, "Gained by a wrong gain", got, e, api.Trace{}, x.right)
		want(t, "the cuts by a wrong gain", cuts, e, 0, x.right)
	}
}

// TestP3_4GainedDefinition holds gains against exact ones, a half added and rounded down.
func TestP3_4GainedDefinition(t *testing.T) {
	d := newDice(8)
	for range 500 {
		gain := big.NewRat(int64(d.from(0, api.MaxGain)), int64(d.from(1, api.MaxGain)))
		old := d.trace(api.MaxSample)
		var right api.Trace
		rightCuts := 0
		for n, sample := range old {
			exact := new(big.Rat).Mul(gain, big.NewRat(int64(sample), 1))
			exact.Add(exact, big.NewRat(1, 2))
			whole := new(big.Int).Div(exact.Num(), exact.Denom()).Int64()
			if whole > 2047 || whole < -2047 {
				rightCuts++
			}
			right[n] = float32(max(-2047, min(2047, whole)))
		}
		got, cuts, e := trace.Gained(old, api.Frac{Num: int(gain.Num().Int64()), Den: int(gain.Denom().Int64())})
		want(t, "Gained", got, e, right, api.OK)
		want(t, "the cuts", cuts, e, rightCuts, api.OK)
	}
}

func TestP3_4LagOf(t *testing.T) {
	sides := spike(20, 5)
	sides[30] = 5
	late := spike(26, 5)
	late[24] = 5
	for _, x := range []struct {
		a, b  api.Trace
		most  int
		right int
	}{
		{spike(10, 100), spike(13, 50), 5, 3},
		{spike(10, 100), spike(13, 50), 3, 3},
		{spike(10, 100), spike(13, 50), 2, 0},
		{spike(13, 100), spike(10, 50), 5, -3},
		{spike(10, 100), spike(10, 50), 5, 0},
		{spike(10, 100), spike(10, 50), 0, 0},
		{spike(0, 1), spike(32, 1), 32, 32},
		{spike(0, 1), spike(32, 1), 31, 0},
		{spike(63, 1), spike(31, 1), 32, -32},
		{spike(0, 1), spike(33, 1), 32, 0},
		// Of two of one size the one below 0; else the lesser size.
		{spike(25, 1), sides, 32, -5},
		{spike(24, 1), sides, 32, -4},
		{spike(26, 1), sides, 32, 4},
		{spike(25, 1), late, 32, -1},
		// All sums are below 0 where there is one: the least size without one.
		{spike(10, 1), spike(10, -1), 5, -1},
		{spike(10, 1), spike(10, -1), 0, 0},
		{level(1), level(-1), 32, -32},
		{level(1), level(1), 32, 0},
		{api.Trace{}, level(5), 32, 0},
		{level(5), api.Trace{}, 32, 0},
		{level(minus()), level(2047), 32, 0},
		{level(2047), level(2047), 32, 0},
	} {
		got, e := trace.LagOf(x.a, x.b, x.most)
		want(t, "LagOf", got, e, x.right, api.OK)
	}
	for _, most := range []int{-1, 33, smallest, greatest} {
		got, e := trace.LagOf(spike(10, 100), spike(13, 50), most)
		want(t, "LagOf with a wrong lag", got, e, 0, api.ErrRange)
	}
}

// TestP3_4LagOfDefinition holds lags against the definition: small samples have many equal sums.
func TestP3_4LagOfDefinition(t *testing.T) {
	d := newDice(9)
	for range 2000 {
		size := []int{1, 2, api.MaxSample}[d.IntN(3)]
		a, b, most := d.trace(size), d.trace(size), d.from(0, api.MaxLag)
		right, best := 0, 0
		for lag := -most; lag <= most; lag++ {
			sum := 0
			for n := range 64 {
				if n+lag >= 0 && n+lag < 64 {
					sum += int(a[n]) * int(b[n+lag])
				}
			}
			if lag == -most || sum > best || sum == best && max(lag, -lag) < max(right, -right) {
				right, best = lag, sum
			}
		}
		got, e := trace.LagOf(a, b, most)
		want(t, "LagOf", got, e, right, api.OK)
	}
}
