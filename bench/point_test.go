package bench_test

import (
	"testing"

	"couplant/api"
	"couplant/bench"
)

func point(x, z, amplitude int) api.BenchPoint {
	return api.BenchPoint{At: api.Spot{X: x, Z: z}, Amplitude: amplitude}
}

func TestP4_2PointsOf(t *testing.T) {
	from, to := api.Spot{Z: 400}, api.Spot{X: 30, Z: 400}
	for _, x := range []struct {
		f     api.BenchFlaw
		right []api.BenchPoint
	}{
		{pore(7, 400, -10), []api.BenchPoint{point(7, 400, -10)}},
		{pore(0, 0, 0), []api.BenchPoint{{}}},
		{plane(from, to, 3, 5, 2), []api.BenchPoint{point(0, 400, 2), point(10, 400, 5), point(20, 400, 5), point(30, 400, 2)}},
		{plane(from, to, 4, 5, 2), []api.BenchPoint{point(0, 400, 2), point(8, 400, 5), point(15, 400, 5), point(23, 400, 5), point(30, 400, 2)}},
		{plane(to, from, 4, 5, 2), []api.BenchPoint{point(30, 400, 2), point(23, 400, 5), point(15, 400, 5), point(8, 400, 5), point(0, 400, 2)}},
		{plane(from, to, 1, 5, 2), []api.BenchPoint{point(0, 400, 2), point(30, 400, 2)}},
		// Halves upwards, also below 0, and in both directions.
		{plane(api.Spot{X: -3, Z: 7}, api.Spot{Z: 4}, 2, 5, 0), []api.BenchPoint{point(-3, 7, 0), point(-1, 6, 5), point(0, 4, 0)}},
		{plane(api.Spot{X: 0, Z: -4}, api.Spot{X: -3, Z: -7}, 2, 5, 0), []api.BenchPoint{point(0, -4, 0), point(-1, -5, 5), point(-3, -7, 0)}},
		// More pieces than the plane is long: points at one place.
		{plane(api.Spot{X: 5, Z: 10}, api.Spot{X: 5, Z: 11}, 4, 1, 9), []api.BenchPoint{point(5, 10, 9), point(5, 10, 1), point(5, 11, 1), point(5, 11, 1), point(5, 11, 9)}},
	} {
		l, e := bench.PointsOf(x.f)
		want(t, "PointsOf", l, e, x.right, api.OK)
	}
	for _, x := range wrongFlaws() {
		l, e := bench.PointsOf(x.f)
		want(t, "PointsOf of a wrong flaw", l, e, nil, x.right)
	}
}

func TestP4_2PointsOfDefinition(t *testing.T) {
	d := newDice(3)
	roll := func() api.Spot {
		size := []int{3, 30, api.MaxPlace}[d.IntN(3)]
		return api.Spot{X: d.from(-size, size), Z: d.from(-size, size)}
	}
	for range 2000 {
		f := plane(roll(), roll(), d.from(1, api.MaxBenchPieces), d.from(-1000, 1000), d.from(-1000, 1000))
		if f.From == f.To {
			continue
		}
		l, e := bench.PointsOf(f)
		want(t, "PointsOf", l, e, rightPoints(f), api.OK)
	}
}
