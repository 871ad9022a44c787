package ray

import (
	"sort"

	"couplant/api"
	"couplant/base"
)

// crossing is a crossing, and the lesser and the greater one of its two places along the plane.
type crossing struct {
	api.RayCross
	lesser, greater int
}

// crossingOf is the crossing of a right RayCross.
func crossingOf(x api.RayCross) crossing {
	return crossing{RayCross: x, lesser: min(x.X1, x.X2), greater: max(x.X1, x.X2)}
}

// CheckCross accepts a crossing.
func CheckCross(x api.RayCross) api.Errno {
	return base.FirstOf(
		base.RangeError(x.X1, -api.MaxPlace, api.MaxPlace),
		base.RangeError(x.X2, -api.MaxPlace, api.MaxPlace),
		base.RangeError(x.H1, 1, api.MaxPlace),
		base.RangeError(x.H2, 1, api.MaxPlace),
		base.SpeedError(x.V1),
		base.SpeedError(x.V2),
	)
}

// SlopeAt returns the sign of the slope at a place of the plane.
func SlopeAt(x api.RayCross, at int) (int, api.Errno) {
	if e := crossPlaceError(x, at); e != api.OK {
		return 0, e
	}
	return crossingOf(x).slope(at), api.OK
}

// TimeAt returns the time of the way through a place of the plane.
func TimeAt(x api.RayCross, at int) (api.Range, api.Errno) {
	if e := crossPlaceError(x, at); e != api.OK {
		return api.Range{}, e
	}
	return crossingOf(x).timeAt(at), api.OK
}

// Crossing returns the crossing of least time.
func Crossing(x api.RayCross) (int, api.Errno) {
	if e := CheckCross(x); e != api.OK {
		return 0, e
	}
	return crossingOf(x).place(), api.OK
}

// CheckCrossing accepts the crossing of least time; the slope on both sides of it proves it.
func CheckCrossing(x api.RayCross, at int) api.Errno {
	if e := crossPlaceError(x, at); e != api.OK {
		return e
	}
	c := crossingOf(x)
	return base.FirstOf(
		base.Unless(c.slope(at) <= 0, api.ErrProof),
		base.Unless(at == c.greater || c.slope(at+1) > 0, api.ErrProof),
	)
}

// Least returns the least time of a crossing.
func Least(x api.RayCross) (api.Range, api.Errno) {
	if e := CheckCross(x); e != api.OK {
		return api.Range{}, e
	}
	return crossingOf(x).leastTime(), api.OK
}

// crossPlaceError is the error of a crossing and a place of its plane.
func crossPlaceError(x api.RayCross, at int) api.Errno {
	return base.FirstOf(
		CheckCross(x),
		base.RangeError(at, min(x.X1, x.X2), max(x.X1, x.X2)),
	)
}

// slope is the sign of the slope at a place from the lesser to the greater one.
func (c crossing) slope(at int) int {
	before, behind := at-c.X1, c.X2-at
	// Between the two places both terms of the slope have one sign, so that
	// their squares tell which of them is greater, without roots.
	sign := base.ComparedProducts(
		before*before, c.V2*c.V2*(behind*behind+c.H2*c.H2),
		behind*behind, c.V1*c.V1*(before*before+c.H1*c.H1),
	)
	if c.X1 > c.X2 {
		return -sign
	}
	return sign
}

// place is the crossing of least time. It bisects, as the slope never falls.
func (c crossing) place() int {
	above := func(n int) bool { return c.slope(c.lesser+n+1) > 0 }
	return c.lesser + sort.Search(c.greater-c.lesser, above)
}

// timeAt is the sum of the times of both legs.
func (c crossing) timeAt(at int) api.Range {
	p := api.Spot{X: at}
	first := legTime(api.Spot{X: c.X1, Z: c.H1}, p, c.V1)
	second := legTime(api.Spot{X: c.X2, Z: c.H2}, p, c.V2)
	return added(first, second)
}

// bound is how much less than at whole places the time may be between them.
func (c crossing) bound() int {
	return base.DividedUp(10000000, c.V1*c.H1) + base.DividedUp(10000000, c.V2*c.H2)
}

// leastTime is the least time of the crossing.
func (c crossing) leastTime() api.Range {
	k := c.place()
	t := c.timeAt(k)
	if k < c.greater {
		next := c.timeAt(k + 1)
		t = api.Range{Lo: min(t.Lo, next.Lo), Hi: min(t.Hi, next.Hi)}
	}
	t.Lo = max(0, t.Lo-c.bound())
	return t
}
