package bench

import (
	"couplant/api"
	"couplant/base"
	"couplant/ray"
	"couplant/trace"
)

// CheckArray accepts an array, or returns the number of a wrong element, and the error.
func CheckArray(a api.BenchArray) (int, api.Errno) {
	if n, e := base.ElementsError(a.Elements); e != api.OK {
		return n, e
	}
	return 0, base.FirstOf(
		ray.CheckMode(a.Out),
		ray.CheckMode(a.Back),
		base.Unless(a.Out.Thick == a.Back.Thick, api.ErrUnit),
		trace.CheckSampling(a.Times),
	)
}

// CheckFlaw accepts a flaw.
func CheckFlaw(f api.BenchFlaw) api.Errno {
	e := base.FirstOf(
		base.Unless(f.Kind == api.BenchPore || f.Kind == api.BenchPlane, api.ErrKind),
		base.PlaceError(f.From),
		amplitudeError(f.Amplitude),
	)
	switch {
	case e != api.OK:
		return e
	case f.Kind == api.BenchPore:
		return base.Unless(f.To == api.Spot{} && f.Pieces == 0 && f.Tip == 0, api.ErrForm)
	}
	return base.FirstOf(
		base.PlaceError(f.To),
		base.RangeError(f.Pieces, 1, api.MaxBenchPieces),
		amplitudeError(f.Tip),
		base.Unless(f.To != f.From, api.ErrZero),
	)
}

// CheckSpecimen accepts a specimen, or returns the number of a wrong element or flaw, and the error.
func CheckSpecimen(s api.BenchSpecimen) (int, api.Errno) {
	if n, e := CheckArray(s.Array); e != api.OK {
		return n, e
	}
	e := base.FirstOf(
		pulseError(s.Pulse),
		base.Unless(len(s.Flaws) <= api.MaxBenchFlaws, api.ErrLarge),
	)
	if e != api.OK {
		return 0, e
	}
	return base.FirstIn(len(s.Flaws), func(n int) api.Errno {
		f := s.Flaws[n]
		return base.FirstOf(CheckFlaw(f), depthsError(f, s.Array.Out.Thick))
	})
}

// arrayError is the error of CheckArray alone.
func arrayError(a api.BenchArray) api.Errno {
	_, e := CheckArray(a)
	return e
}

// specimenError is the error of CheckSpecimen alone.
func specimenError(s api.BenchSpecimen) api.Errno {
	_, e := CheckSpecimen(s)
	return e
}

// matrixError is the error of a full matrix.
func matrixError(m api.FullMatrix) api.Errno {
	_, e := trace.CheckMatrix(m)
	return e
}

// placeError is the error of a place of a right array.
func placeError(a api.BenchArray, at api.Spot) api.Errno {
	return base.PlateError(at, a.Out.Thick)
}

// echoError is the error of an array, a place of it, and a pair.
func echoError(a api.BenchArray, at api.Spot, pair [2]int) api.Errno {
	return base.FirstOf(arrayError(a), placeError(a, at), base.PairError(pair, len(a.Elements)))
}

// pulseError is the error of a pulse.
func pulseError(pulse []int) api.Errno {
	if e := base.LengthError(len(pulse), api.MaxPulse); e != api.OK {
		return e
	}
	_, e := base.FirstIn(len(pulse), func(n int) api.Errno {
		return base.RangeError(pulse[n], -api.MaxPulsePart, api.MaxPulsePart)
	})
	return e
}

// amplitudeError is the error of an amplitude.
func amplitudeError(amplitude int) api.Errno {
	return base.RangeError(amplitude, -api.MaxAmplitude, api.MaxAmplitude)
}

// depthsError is the error of the depths of a right flaw in a plate.
func depthsError(f api.BenchFlaw, thick int) api.Errno {
	e := base.DepthError(f.From.Z, thick)
	if f.Kind == api.BenchPlane {
		e = base.FirstOf(e, base.DepthError(f.To.Z, thick))
	}
	return e
}
