package bench_test

import (
	"slices"
	"testing"

	"couplant/api"
	"couplant/bench"
)

func TestP4_1CheckArray(t *testing.T) {
	for _, x := range wrongArrays() {
		n, e := bench.CheckArray(x.s.Array)
		want(t, "CheckArray of a wrong array", n, e, x.number, x.right)
	}
	right := func(what string, change func(a *api.BenchArray)) {
		t.Helper()
		a := two().Array
		change(&a)
		n, e := bench.CheckArray(a)
		want(t, "CheckArray with "+what, n, e, 0, api.OK)
	}
	right("nothing changed", func(*api.BenchArray) {})
	right("one element", func(a *api.BenchArray) { a.Elements = a.Elements[1:] })
	right("two elements at one place", func(a *api.BenchArray) { a.Elements[1] = a.Elements[0] })
	right("sixteen elements", func(a *api.BenchArray) { a.Elements = slices.Repeat(a.Elements[:1], 16) })
	right("the least places", func(a *api.BenchArray) { a.Elements[1] = api.Spot{X: -100000, Z: -100000} })
	right("the greatest places", func(a *api.BenchArray) { a.Elements[1] = api.Spot{X: 100000, Z: -1} })
	right("the least modes", func(a *api.BenchArray) {
		a.Out = api.RayMode{Wedge: 500, Metal: 500, Thick: 2}
		a.Back = api.RayMode{Wedge: 10000, Metal: 10000, Skips: 4, Thick: 2}
	})
	right("the greatest thickness", func(a *api.BenchArray) { a.Out.Thick, a.Back.Thick = 20000, 20000 })
	right("the least times", func(a *api.BenchArray) { a.Times = api.Sampling{Step: 1} })
	right("the greatest times", func(a *api.BenchArray) { a.Times = api.Sampling{First: api.MaxTime, Step: api.MaxStep} })
}

func TestP4_1CheckFlaw(t *testing.T) {
	for _, x := range wrongFlaws() {
		want(t, "CheckFlaw", x.f, bench.CheckFlaw(x.f), x.f, x.right)
	}
	far := api.Spot{X: 100000, Z: -100000}
	for _, f := range []api.BenchFlaw{
		pore(0, 400, 10), pore(0, 0, 0), {}, pore(-100000, 100000, -1000), pore(100000, -100000, 1000),
		two().Flaws[1],
		plane(api.Spot{}, api.Spot{X: 1}, 1, 0, 0),
		plane(api.Spot{}, api.Spot{Z: -1}, 20, 0, 0),
		plane(api.Spot{X: 5, Z: 400}, api.Spot{X: 5, Z: 401}, 20, 1000, -1000),
		plane(far, api.Spot{X: -100000, Z: 100000}, 20, -1000, 1000),
		plane(api.Spot{X: -100000, Z: 100000}, far, 1, 1, 1),
	} {
		want(t, "CheckFlaw", f, bench.CheckFlaw(f), f, api.OK)
	}
}

func TestP4_1CheckSpecimen(t *testing.T) {
	for _, x := range wrongSpecimens() {
		n, e := bench.CheckSpecimen(x.s)
		want(t, "CheckSpecimen of a wrong specimen", n, e, x.number, x.right)
	}
	right := func(what string, change func(s *api.BenchSpecimen)) {
		t.Helper()
		s := two()
		change(&s)
		n, e := bench.CheckSpecimen(s)
		want(t, "CheckSpecimen with "+what, n, e, 0, api.OK)
	}
	right("nothing changed", func(*api.BenchSpecimen) {})
	right("no flaws", func(s *api.BenchSpecimen) { s.Flaws = nil })
	right("ten flaws", func(s *api.BenchSpecimen) { s.Flaws = slices.Repeat(s.Flaws[:1], 10) })
	right("one sample of a pulse", func(s *api.BenchSpecimen) { s.Pulse = []int{0} })
	right("sixteen of them", func(s *api.BenchSpecimen) { s.Pulse = slices.Repeat([]int{100, -100}, 8) })
	right("flaws at the walls", func(s *api.BenchSpecimen) {
		s.Flaws = []api.BenchFlaw{pore(0, 1, 1), pore(0, 999, 1), plane(api.Spot{Z: 1}, api.Spot{Z: 999}, 1, 1, 1), plane(api.Spot{Z: 999}, api.Spot{Z: 1}, 1, 1, 1)}
	})
	right("flaws far away", func(s *api.BenchSpecimen) {
		s.Flaws = []api.BenchFlaw{pore(-100000, 5, 1), plane(api.Spot{X: 100000, Z: 1}, api.Spot{X: -100000, Z: 1}, 1, 1, 1)}
	})
	thin := two()
	thin.Array.Out.Thick, thin.Array.Back.Thick = 500, 500
	n, e := bench.CheckSpecimen(thin)
	want(t, "CheckSpecimen of a thin plate", n, e, 1, api.ErrBreak)
}
