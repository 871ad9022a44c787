package law

import (
	"couplant/api"
	"couplant/base"
)

// GratingFree returns whether a pitch has no grating lobe with its turn.
func GratingFree(x api.LawPitch) (bool, api.Errno) {
	if e := base.FirstOf(pitchError(x), CheckTurn(x.Turn)); e != api.OK {
		return false, e
	}
	across := base.Size(x.Turn.P)
	return x.Pitch*(x.Turn.R+across)*x.Kilohertz <= 100*x.Speed*x.Turn.R, api.OK
}

// SteepestFree returns the greatest sine of a turn with which a pitch has no grating lobe.
func SteepestFree(x api.LawPitch) (api.Frac, api.Errno) {
	pitch := x.Pitch * x.Kilohertz
	left := 100*x.Speed - pitch
	if e := base.FirstOf(pitchError(x), base.Unless(left >= 0, api.ErrNone)); e != api.OK {
		return api.Frac{}, e
	}
	return base.Lowest(min(left, pitch), pitch), api.OK
}

// NearField returns the near field of an aperture.
func NearField(aperture, speed, kilohertz int) (api.Range, api.Errno) {
	e := base.FirstOf(
		base.RangeError(aperture, 0, api.MaxAperture),
		waveError(speed, kilohertz),
	)
	if e != api.OK {
		return api.Range{}, e
	}
	num, den := aperture*aperture*kilohertz, 400*speed
	return api.Range{Lo: base.DividedDown(num, den), Hi: base.DividedUp(num, den)}, api.OK
}

// pitchError is the error of all that asks for grating lobes but the turn.
func pitchError(x api.LawPitch) api.Errno {
	return base.FirstOf(
		base.RangeError(x.Pitch, 1, api.MaxPitch),
		waveError(x.Speed, x.Kilohertz),
	)
}

// waveError is the error of waves with a speed and a frequency.
func waveError(speed, kilohertz int) api.Errno {
	return base.FirstOf(
		base.SpeedError(speed),
		base.RangeError(kilohertz, 1, api.MaxKilohertz),
	)
}
