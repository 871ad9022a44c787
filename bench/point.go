package bench

import (
	"iter"
	"slices"

	"couplant/api"
	"couplant/base"
)

// PointsOf returns the points of a flaw.
func PointsOf(f api.BenchFlaw) ([]api.BenchPoint, api.Errno) {
	if e := CheckFlaw(f); e != api.OK {
		return nil, e
	}
	return slices.Collect(pointsOf(f)), api.OK
}

// pointsOf yields the points of a right flaw.
func pointsOf(f api.BenchFlaw) iter.Seq[api.BenchPoint] {
	return func(yield func(api.BenchPoint) bool) {
		if f.Kind == api.BenchPore {
			yield(api.BenchPoint{At: f.From, Amplitude: f.Amplitude})
			return
		}
		for k := range f.Pieces + 1 {
			if !yield(pointBehind(f, k)) {
				return
			}
		}
	}
}

// pointBehind is the point of a plane behind so many pieces of it.
func pointBehind(f api.BenchFlaw, k int) api.BenchPoint {
	p := api.BenchPoint{Amplitude: f.Amplitude}
	if k == 0 || k == f.Pieces {
		p.Amplitude = f.Tip
	}
	p.At.X = f.From.X + base.Rounded(k*(f.To.X-f.From.X), f.Pieces)
	p.At.Z = f.From.Z + base.Rounded(k*(f.To.Z-f.From.Z), f.Pieces)
	return p
}
