package ray

import (
	"couplant/api"
	"couplant/base"
)

// CriticalSquare returns the sine squared beyond which nothing passes from one speed to another one.
func CriticalSquare(first, second int) (api.Frac, api.Errno) {
	e := base.FirstOf(
		base.SpeedError(first),
		base.SpeedError(second),
		base.Unless(first < second, api.ErrNone),
	)
	if e != api.OK {
		return api.Frac{}, e
	}
	return base.Lowest(first*first, second*second), api.OK
}

// Passes returns whether a direction passes from one speed to another one.
func Passes(direction [2]int, first, second int) (bool, api.Errno) {
	if e := base.FirstOf(directionError(direction), base.SpeedError(first), base.SpeedError(second)); e != api.OK {
		return false, e
	}
	num, den := behind(direction, first, second)
	return num <= den, api.OK
}

// BehindSquare returns the sine squared of a direction behind the plane.
func BehindSquare(direction [2]int, first, second int) (api.Frac, api.Errno) {
	passes, e := Passes(direction, first, second)
	if e = base.FirstOf(e, base.Unless(passes, api.ErrNone)); e != api.OK {
		return api.Frac{}, e
	}
	square := base.Lowest(behind(direction, first, second))
	if square.Num > api.MaxPart || square.Den > api.MaxPart {
		return api.Frac{}, api.ErrLarge
	}
	return square, api.OK
}

// SteepWithin returns whether the tangent of a direction to the upright is, in size, from least to most.
func SteepWithin(direction [2]int, least, most api.Frac) (bool, api.Errno) {
	if e := base.FirstOf(directionError(direction), fracError(least), fracError(most)); e != api.OK {
		return false, e
	}
	if isGreater(least, most) {
		return false, api.ErrOrder
	}
	steep := api.Frac{Num: base.Size(direction[0]), Den: direction[1]}
	return !isGreater(least, steep) && !isGreater(steep, most), api.OK
}

// behind is the numerator and the denominator of the sine squared behind the plane, not in lowest terms.
func behind(direction [2]int, first, second int) (num, den int) {
	across, down := direction[0]*direction[0], direction[1]*direction[1]
	return across * second * second, (across + down) * first * first
}

// isGreater tells whether a is greater than b; both are small and at least 0.
func isGreater(a, b api.Frac) bool { return a.Num*b.Den > b.Num*a.Den }
