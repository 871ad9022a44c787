package ray

import "couplant/api"

// firstOf returns the first of some errors, or OK if all of them are OK.
func firstOf(errors ...api.Errno) api.Errno {
	for _, e := range errors {
		if e != api.OK {
			return e
		}
	}
	return api.OK
}

// unless returns an error unless a condition holds.
func unless(holds bool, e api.Errno) api.Errno {
	if holds {
		return api.OK
	}
	return e
}

// placeError is the error of a place.
func placeError(p api.Spot) api.Errno {
	return unless(alongPlane(p.X) && alongPlane(p.Z), api.ErrRange)
}

// speedError is the error of a speed.
func speedError(speed int) api.Errno {
	return unless(within(speed, api.LeastSpeed, api.MaxSpeed), api.ErrRange)
}

// thickError is the error of the thickness of a plate.
func thickError(thick int) api.Errno {
	return unless(within(thick, 2, api.MaxRayThick), api.ErrRange)
}

// directionError is the error of a direction.
func directionError(direction [2]int) api.Errno {
	across, down := direction[0], direction[1]
	return unless(within(across, -api.MaxDirection, api.MaxDirection) && within(down, 1, api.MaxDirection), api.ErrRange)
}

// fracError is the error of a fraction that is to be at least 0 and small.
func fracError(f api.Frac) api.Errno {
	return firstOf(
		unless(f.Den > 0 && commonDivisor(f.Num, f.Den) == 1, api.ErrForm),
		unless(within(f.Num, 0, api.MaxPart) && f.Den <= api.MaxPart, api.ErrRange),
	)
}

// within tells whether a number is from least to most.
func within(n, least, most int) bool { return least <= n && n <= most }

// alongPlane tells whether a number is that of a place.
func alongPlane(n int) bool { return within(n, -api.MaxPlace, api.MaxPlace) }
