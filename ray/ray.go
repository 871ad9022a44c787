// Package ray is chapter 1: least travel times. See shared/doc/01-ray.md.
package ray

import (
	"couplant/api"
	"couplant/base"
)

// Length returns the length between two places, in thousandths of a unit of places.
func Length(a, b api.Spot) (api.Range, api.Errno) {
	if e := base.FirstOf(base.PlaceError(a), base.PlaceError(b)); e != api.OK {
		return api.Range{}, e
	}
	return lengthOf(a, b), api.OK
}

// TimeOf returns the time from one place to another one at a speed, in picoseconds.
func TimeOf(a, b api.Spot, speed int) (api.Range, api.Errno) {
	if e := base.FirstOf(base.PlaceError(a), base.PlaceError(b), base.SpeedError(speed)); e != api.OK {
		return api.Range{}, e
	}
	return legTime(a, b, speed), api.OK
}

// lengthOf is Length of right places.
func lengthOf(a, b api.Spot) api.Range {
	if a == b {
		return api.Range{}
	}
	across, down := b.X-a.X, b.Z-a.Z
	square := 1000000 * (across*across + down*down)
	return api.Range{Lo: base.RootDown(square), Hi: base.RootUp(square)}
}

// legTime is TimeOf of right places and a right speed.
func legTime(a, b api.Spot, speed int) api.Range {
	l := lengthOf(a, b)
	return api.Range{Lo: base.DividedDown(10000*l.Lo, speed), Hi: base.DividedUp(10000*l.Hi, speed)}
}

// added is the sum of two enclosures.
func added(a, b api.Range) api.Range {
	return api.Range{Lo: a.Lo + b.Lo, Hi: a.Hi + b.Hi}
}
