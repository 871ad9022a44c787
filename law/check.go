package law

import (
	"couplant/api"
	"couplant/base"
	"couplant/ray"
)

// CheckArray accepts an array, or returns the number of a wrong element, and the error.
func CheckArray(a api.LawArray) (int, api.Errno) {
	if n, e := base.ElementsError(a.Elements); e != api.OK {
		return n, e
	}
	return 0, base.FirstOf(ray.CheckMode(a.Mode), clockError(a.Clock))
}

// CheckLaw accepts a law, or returns the number of an element with wrong ticks, and the error.
func CheckLaw(l api.DelayLaw) (int, api.Errno) {
	e := base.FirstOf(clockError(l.Clock), base.LengthError(len(l.Ticks), api.MaxElements))
	if e != api.OK {
		return 0, e
	}
	return base.FirstIn(len(l.Ticks), func(n int) api.Errno {
		return base.RangeError(l.Ticks[n], silent, api.MaxTicks)
	})
}

// CheckTurn accepts a direction.
func CheckTurn(t api.LawTurn) api.Errno {
	return base.FirstOf(
		base.RangeError(t.R, 1, api.MaxDirection),
		base.Unless(isRightAngled(t), api.ErrShape),
		base.Unless(t.Q > 0, api.ErrKind),
	)
}

// isRightAngled tells whether both squares together are that of R.
func isRightAngled(t api.LawTurn) bool {
	// Squares of numbers that are not within R may not fit into an int.
	fits := base.Within(t.P, -t.R, t.R) && base.Within(t.Q, -t.R, t.R)
	return fits && t.P*t.P+t.Q*t.Q == t.R*t.R
}

// clockError is the error of a clock.
func clockError(clock int) api.Errno { return base.RangeError(clock, 1, api.MaxClock) }

// arrayError is the error of CheckArray alone.
func arrayError(a api.LawArray) api.Errno {
	_, e := CheckArray(a)
	return e
}

// lawError is the error of CheckLaw alone.
func lawError(l api.DelayLaw) api.Errno {
	_, e := CheckLaw(l)
	return e
}

// lawOfArrayError is the error of an array and a law of it.
func lawOfArrayError(a api.LawArray, l api.DelayLaw) api.Errno {
	return base.FirstOf(
		arrayError(a),
		lawError(l),
		base.Unless(len(l.Ticks) == len(a.Elements), api.ErrShape),
	)
}

// placeError is the error of a place where the sound of an array is to arrive by its mode.
func placeError(m api.RayMode, p api.Spot) api.Errno { return base.PlateError(p, m.Thick) }
