package ray

import (
	"couplant/api"
	"couplant/base"
)

// CheckMode accepts a mode.
func CheckMode(m api.RayMode) api.Errno {
	return base.FirstOf(
		base.SpeedError(m.Wedge),
		base.SpeedError(m.Metal),
		base.RangeError(m.Skips, 0, api.MaxSkips),
		thickError(m.Thick),
	)
}

// Unfolded returns the unfolded depth of a place in the plate.
func Unfolded(m api.RayMode, z int) (int, api.Errno) {
	if e := base.FirstOf(CheckMode(m), base.Unless(inPlate(z, m.Thick), api.ErrBreak)); e != api.OK {
		return 0, e
	}
	return unfolded(m, z), api.OK
}

// CrossOf returns the crossing of a mode.
func CrossOf(m api.RayMode, from, to api.Spot) (api.RayCross, api.Errno) {
	if e := base.FirstOf(CheckMode(m), wayError(m, from, to)); e != api.OK {
		return api.RayCross{}, e
	}
	return crossOf(m, from, to), api.OK
}

// LeastTime returns the least time of a mode.
func LeastTime(m api.RayMode, from, to api.Spot) (api.Range, api.Errno) {
	x, e := CrossOf(m, from, to)
	if e != api.OK {
		return api.Range{}, e
	}
	return crossingOf(x).leastTime(), api.OK
}

// RoundedTime returns the middle of the least time of a mode.
func RoundedTime(m api.RayMode, from, to api.Spot) (int, api.Errno) {
	t, e := LeastTime(m, from, to)
	if e != api.OK {
		return 0, e
	}
	return base.DividedDown(t.Lo+t.Hi, 2), api.OK
}

// Walls returns where the way of a mode meets the walls of the plate.
func Walls(m api.RayMode, from, to api.Spot) ([]api.Range, api.Errno) {
	x, e := CrossOf(m, from, to)
	if e != api.OK {
		return nil, e
	}
	k := crossingOf(x).place()
	var walls []api.Range
	for j := 1; j <= m.Skips; j++ {
		across := (x.X2 - k) * j * m.Thick
		walls = append(walls, api.Range{Lo: k + base.DividedDown(across, x.H2), Hi: k + base.DividedUp(across, x.H2)})
	}
	return walls, api.OK
}

// wayError is the error of a way of a mode that is right.
func wayError(m api.RayMode, from, to api.Spot) api.Errno {
	return base.FirstOf(
		base.PlaceError(from),
		base.PlaceError(to),
		base.Unless(from.Z < 0, api.ErrKind),
		base.Unless(inPlate(to.Z, m.Thick), api.ErrBreak),
	)
}

// inPlate tells whether a depth is in a plate, and not at its walls.
func inPlate(z, thick int) bool { return 0 < z && z < thick }

// unfolded is the unfolded depth of a right mode and place.
func unfolded(m api.RayMode, z int) int {
	if m.Skips%2 == 1 {
		z = m.Thick - z
	}
	return m.Skips*m.Thick + z
}

// crossOf is the crossing of a right mode and way.
func crossOf(m api.RayMode, from, to api.Spot) api.RayCross {
	return api.RayCross{
		X1: from.X, H1: -from.Z, V1: m.Wedge,
		X2: to.X, H2: unfolded(m, to.Z), V2: m.Metal,
	}
}
