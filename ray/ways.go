package ray

import (
	"couplant/api"
	"couplant/base"
)

// TurnedTime returns the least time of a turn at the back wall.
func TurnedTime(x api.RayTurn) (api.Range, api.Errno) {
	if e := turnError(x); e != api.OK {
		return api.Range{}, e
	}
	wall := api.RayCross{
		X1: x.From.X, H1: x.Thick - x.From.Z, V1: x.First,
		X2: x.To.X, H2: x.Thick - x.To.Z, V2: x.Second,
	}
	return crossingOf(wall).leastTime(), api.OK
}

// EchoTime returns the sum of the least times to a place and back from it.
func EchoTime(x api.RayEcho) (api.Range, api.Errno) {
	e := base.FirstOf(
		CheckMode(x.Out),
		CheckMode(x.Back),
		wayError(x.Out, x.From, x.At),
		wayError(x.Back, x.To, x.At),
	)
	if e != api.OK {
		return api.Range{}, e
	}
	out := crossingOf(crossOf(x.Out, x.From, x.At)).leastTime()
	back := crossingOf(crossOf(x.Back, x.To, x.At)).leastTime()
	return added(out, back), api.OK
}

// MayBeFirst returns the numbers of the modes whose least time may be the least of all.
func MayBeFirst(l []api.RayMode, from, to api.Spot) ([]int, api.Errno) {
	if e := base.LengthError(len(l), api.MaxRayModes); e != api.OK {
		return nil, e
	}
	var times []api.Range
	for _, m := range l {
		t, e := LeastTime(m, from, to)
		if e != api.OK {
			return nil, e
		}
		times = append(times, t)
	}
	return notAfter(times), api.OK
}

// turnError is the error of a turn. Its places may also be on the surface.
func turnError(x api.RayTurn) api.Errno {
	besideWall := func(z int) bool { return z == 0 || inPlate(z, x.Thick) }
	return base.FirstOf(
		base.PlaceError(x.From),
		base.PlaceError(x.To),
		thickError(x.Thick),
		base.Unless(besideWall(x.From.Z) && besideWall(x.To.Z), api.ErrBreak),
		base.SpeedError(x.First),
		base.SpeedError(x.Second),
	)
}

// notAfter is the numbers of the times that begin at the latest when all of them have ended.
func notAfter(times []api.Range) []int {
	end := times[0].Hi
	for _, t := range times {
		end = min(end, t.Hi)
	}
	var numbers []int
	for n, t := range times {
		if t.Lo <= end {
			numbers = append(numbers, n)
		}
	}
	return numbers
}
