package bench

import (
	"slices"

	"couplant/api"
	"couplant/base"
)

// Without returns a specimen without a flaw.
func Without(s api.BenchSpecimen, flaw int) (api.BenchSpecimen, api.Errno) {
	e := base.FirstOf(
		specimenError(s),
		base.MissingError(flaw, len(s.Flaws)),
	)
	if e != api.OK {
		return api.BenchSpecimen{}, e
	}
	return withFlaws(s, slices.Concat(s.Flaws[:flaw], s.Flaws[flaw+1:])), api.OK
}

// Moved returns a specimen whose flaws have moved along X.
func Moved(s api.BenchSpecimen, by int) (api.BenchSpecimen, api.Errno) {
	e := base.FirstOf(specimenError(s), base.RangeError(by, -api.MaxPlace, api.MaxPlace))
	if e != api.OK {
		return api.BenchSpecimen{}, e
	}
	var flaws []api.BenchFlaw
	for _, f := range s.Flaws {
		f = moved(f, by)
		if e := base.FirstOf(base.PlaceError(f.From), base.PlaceError(f.To)); e != api.OK {
			return api.BenchSpecimen{}, e
		}
		flaws = append(flaws, f)
	}
	return withFlaws(s, flaws), api.OK
}

// Along returns the full matrices of a scan along X.
func Along(s api.BenchSpecimen, step, count int) ([]api.FullMatrix, api.Errno) {
	e := base.FirstOf(
		specimenError(s),
		base.RangeError(step, -api.MaxPlace, api.MaxPlace),
		base.RangeError(count, 1, api.MaxBenchAlong),
	)
	if e != api.OK {
		return nil, e
	}
	var l []api.FullMatrix
	for k := range count {
		there, e := Moved(s, -k*step)
		if e != api.OK {
			return nil, e
		}
		m, e := MatrixOf(there)
		if e != api.OK {
			return nil, e
		}
		l = append(l, m)
	}
	return l, api.OK
}

// withFlaws is a specimen with other flaws, and with its own memory for the rest.
func withFlaws(s api.BenchSpecimen, flaws []api.BenchFlaw) api.BenchSpecimen {
	s.Array.Elements = slices.Clone(s.Array.Elements)
	s.Pulse = slices.Clone(s.Pulse)
	s.Flaws = flaws
	return s
}

// moved is a flaw that has moved along X; a pore has no other end that could move.
func moved(f api.BenchFlaw, by int) api.BenchFlaw {
	f.From.X += by
	if f.Kind == api.BenchPlane {
		f.To.X += by
	}
	return f
}
