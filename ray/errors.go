package ray

import (
	"couplant/api"
	"couplant/base"
)

// thickError is the error of the thickness of a plate.
func thickError(thick int) api.Errno {
	return base.RangeError(thick, 2, api.MaxRayThick)
}

// directionError is the error of a direction.
func directionError(direction [2]int) api.Errno {
	return base.FirstOf(
		base.RangeError(direction[0], -api.MaxDirection, api.MaxDirection),
		base.RangeError(direction[1], 1, api.MaxDirection),
	)
}

// fracError is the error of a fraction that is to be at least 0 and small.
func fracError(f api.Frac) api.Errno {
	return base.FirstOf(
		base.FormError(f),
		base.RangeError(f.Num, 0, api.MaxPart),
		base.RangeError(f.Den, 1, api.MaxPart),
	)
}
