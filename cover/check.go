package cover

import (
	"couplant/api"
	"couplant/base"
)

// CheckJoint accepts a joint, or returns the number of a wrong face, and the error.
func CheckJoint(j api.CoverJoint) (int, api.Errno) {
	e := base.FirstOf(
		base.NameError(j.Name),
		thickError(j.Thick),
		zoneError(j.Zone),
		base.Unless(len(j.Faces) <= api.MaxCoverFaces, api.ErrLarge),
	)
	if e != api.OK {
		return 0, e
	}
	return base.FirstIn(len(j.Faces), func(n int) api.Errno {
		f := j.Faces[n]
		return base.FirstOf(
			base.NameError(f.Name),
			base.ExistsError(j.Faces, n, nameOfFace),
			endError(f.From, j.Thick),
			endError(f.To, j.Thick),
			base.Unless(f.From != f.To, api.ErrZero),
		)
	})
}

// CheckSetup accepts a set-up.
func CheckSetup(s api.CoverSetup) api.Errno {
	return base.FirstOf(
		base.NameError(s.Name),
		acrossError(s.At),
		base.Unless(s.Side == 1 || s.Side == -1, api.ErrKind),
		base.Unless(s.Legs == 1 || s.Legs == 2, api.ErrKind),
		tangentError(s.Least),
		tangentError(s.Most),
		tangentError(s.Tilt),
		base.Unless(s.Least.Num*s.Most.Den <= s.Most.Num*s.Least.Den, api.ErrOrder),
	)
}

// CheckTrack accepts a track.
func CheckTrack(t api.CoverTrack) api.Errno {
	return base.FirstOf(
		positionError(t.From),
		positionError(t.To),
		positionError(t.Slip),
		positionError(t.Reach),
		base.Unless(t.From <= t.To, api.ErrOrder),
	)
}

// jointError is the error of a joint.
func jointError(j api.CoverJoint) api.Errno {
	_, e := CheckJoint(j)
	return e
}

// faceError is the error of a joint and the number of a face of it.
func faceError(j api.CoverJoint, face int) api.Errno {
	return base.FirstOf(
		jointError(j),
		base.MissingError(face, len(j.Faces)),
	)
}

// askError is the error of a joint and an ask.
func askError(j api.CoverJoint, x api.CoverAsk) api.Errno {
	return base.FirstOf(faceError(j, x.Face), CheckSetup(x.Setup))
}

// bevelError is the error of what a bevelled joint is to be, whether its places are right or not.
func bevelError(b api.CoverBevel) api.Errno {
	return base.FirstOf(
		base.NameError(b.Name),
		thickError(b.Thick),
		zoneError(b.Zone),
		base.RangeError(b.HalfGap, 0, api.MaxCoverPlace),
		base.RangeError(b.Land, 0, b.Thick),
		tangentError(b.Tangent),
	)
}

// setupsError is the error of set-ups.
func setupsError(l []api.CoverSetup) api.Errno {
	if len(l) > api.MaxCoverSetups {
		return api.ErrLarge
	}
	_, e := base.FirstIn(len(l), func(n int) api.Errno {
		return base.FirstOf(CheckSetup(l[n]), base.ExistsError(l, n, nameOfSetup))
	})
	return e
}

// pointError is the error of a point.
func pointError(p api.CoverPoint) api.Errno {
	return base.FirstOf(
		base.FormError(api.Frac(p)),
		base.RangeError(p.Num, 0, p.Den),
		base.RangeError(p.Den, 1, api.MaxCoverDen),
	)
}

// pointsError is the error of points that are to ascend.
func pointsError(p []api.CoverPoint) api.Errno {
	if len(p) > api.MaxCoverSetups {
		return api.ErrLarge
	}
	_, e := base.FirstIn(len(p), func(n int) api.Errno {
		return base.FirstOf(
			pointError(p[n]),
			base.Unless(n == 0 || compared(p[n-1], p[n]) < 0, api.ErrOrder),
		)
	})
	return e
}

// readingsError is the error of a track and the readings of an encoder.
func readingsError(t api.CoverTrack, readings []int) api.Errno {
	e := base.FirstOf(
		CheckTrack(t),
		base.Unless(len(readings) <= api.MaxCoverReadings, api.ErrLarge),
	)
	if e != api.OK {
		return e
	}
	_, e = base.FirstIn(len(readings), func(n int) api.Errno {
		return base.RangeError(readings[n], -2*api.MaxCoverPosition, 2*api.MaxCoverPosition)
	})
	return e
}

// thickError, and those below, are the errors of single numbers.
func thickError(thick int) api.Errno { return base.RangeError(thick, 1, api.MaxCoverPlace) }

func zoneError(zone int) api.Errno { return base.RangeError(zone, 0, api.MaxCoverPlace) }

func acrossError(x int) api.Errno {
	return base.RangeError(x, -api.MaxCoverPlace, api.MaxCoverPlace)
}

func depthError(z, thick int) api.Errno { return base.RangeError(z, 0, thick) }

func positionError(p int) api.Errno { return base.RangeError(p, 0, api.MaxCoverPosition) }

// endError is the error of an end of a face in a plate.
func endError(p api.Spot, thick int) api.Errno {
	return base.FirstOf(acrossError(p.X), depthError(p.Z, thick))
}

// tangentError is the error of a tangent.
func tangentError(f api.Frac) api.Errno {
	return base.FirstOf(
		base.FormError(f),
		base.RangeError(f.Num, 0, api.MaxCoverTangent),
		base.RangeError(f.Den, 1, api.MaxCoverTangent),
	)
}

// nameOfFace and nameOfSetup are the names that are to differ.
func nameOfFace(f api.CoverFace) string { return f.Name }

func nameOfSetup(s api.CoverSetup) string { return s.Name }
