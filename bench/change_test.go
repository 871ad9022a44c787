package bench_test

import (
	"slices"
	"testing"

	"couplant/api"
	"couplant/bench"
)

func TestP4_4Without(t *testing.T) {
	s := two()
	s.Flaws = append(s.Flaws, pore(5, 5, 5))
	for flaw, right := range [][]api.BenchFlaw{{s.Flaws[1], s.Flaws[2]}, {s.Flaws[0], s.Flaws[2]}, {s.Flaws[0], s.Flaws[1]}} {
		rest := s
		rest.Flaws = right
		got, e := bench.Without(s, flaw)
		want(t, "Without", got, e, rest, api.OK)
	}
	none := one()
	none.Flaws = nil
	got, e := bench.Without(one(), 0)
	want(t, "Without the only one", got, e, none, api.OK)
	for _, flaw := range []int{-1, 3, smallest, greatest} {
		got, e := bench.Without(s, flaw)
		want(t, "Without a flaw that is not there", got, e, api.BenchSpecimen{}, api.ErrMissing)
	}
	got, e = bench.Without(none, 0)
	want(t, "Without, of none", got, e, api.BenchSpecimen{}, api.ErrMissing)
	for _, x := range wrongSpecimens() {
		for _, flaw := range []int{0, -1} {
			got, e := bench.Without(x.s, flaw)
			want(t, "Without of a wrong specimen", got, e, api.BenchSpecimen{}, x.right)
		}
	}
}

func TestP4_4Moved(t *testing.T) {
	for _, by := range []int{-7, 0, 7, -99970, 99955} {
		right := two()
		right.Flaws[0].From.X += by
		right.Flaws[1].From.X += by
		right.Flaws[1].To.X += by
		got, e := bench.Moved(two(), by)
		want(t, "Moved", got, e, right, api.OK)
	}
	none := one()
	none.Flaws = nil
	for _, by := range []int{-100000, 100000} {
		got, e := bench.Moved(none, by)
		want(t, "Moved without flaws", got, e, none, api.OK)
		right := one()
		right.Flaws[0].From.X = by
		got, e = bench.Moved(one(), by)
		want(t, "Moved to the end", got, e, right, api.OK)
		back := one()
		back.Flaws[0].From.X = -by
		right.Flaws[0].From.X = 0
		got, e = bench.Moved(back, by)
		want(t, "Moved from the end", got, e, right, api.OK)
	}
}

func TestP4_4MovedErrors(t *testing.T) {
	wrong := func(what string, s api.BenchSpecimen, by int, right api.Errno) {
		t.Helper()
		got, e := bench.Moved(s, by)
		want(t, "Moved "+what, got, e, api.BenchSpecimen{}, right)
	}
	none := one()
	none.Flaws = nil
	for _, by := range tooFar() {
		wrong("too far", none, by, api.ErrRange)
		away := one()
		away.Flaws[0].From.X = 100000
		wrong("too far, to a place", away, by, api.ErrRange)
	}
	for _, sign := range []int{-1, 1} {
		away := one()
		away.Flaws[0].From.X = sign
		wrong("to no place", away, sign*100000, api.ErrRange)
		away.Flaws = []api.BenchFlaw{plane(api.Spot{X: sign, Z: 5}, api.Spot{X: 0, Z: 5}, 1, 1, 1)}
		wrong("From to no place", away, sign*100000, api.ErrRange)
		away.Flaws = []api.BenchFlaw{pore(0, 5, 5), plane(api.Spot{Z: 5}, api.Spot{X: sign, Z: 5}, 1, 1, 1)}
		wrong("To to no place", away, sign*100000, api.ErrRange)
	}
	for _, x := range wrongSpecimens() {
		wrong("of a wrong specimen", x.s, 0, x.right)
		wrong("too far, of a wrong specimen", x.s, 100001, x.right)
	}
}

func TestP4_4Along(t *testing.T) {
	for _, x := range []struct{ step, count int }{{50, 4}, {-50, 20}, {0, 3}, {100000, 1}, {-100000, 1}, {100000, 2}, {-99955, 2}} {
		var right []api.FullMatrix
		s := two()
		s.Flaws = s.Flaws[:1]
		for k := range x.count {
			there := copied(s)
			there.Flaws[0].From.X -= k * x.step
			right = append(right, rightMatrix(there))
		}
		l, e := bench.Along(s, x.step, x.count)
		want(t, "Along", l, e, right, api.OK)
	}
	s := two()
	moved := two()
	moved.Flaws[0].From.X, moved.Flaws[1].From.X, moved.Flaws[1].To.X = -40, -70, 5
	l, e := bench.Along(s, 40, 2)
	want(t, "Along with a plane", l, e, []api.FullMatrix{rightMatrix(s), rightMatrix(moved)}, api.OK)
}

func TestP4_4AlongErrors(t *testing.T) {
	wrong := func(what string, s api.BenchSpecimen, step, count int, right api.Errno) {
		t.Helper()
		l, e := bench.Along(s, step, count)
		want(t, "Along "+what, l, e, nil, right)
	}
	for _, step := range tooFar() {
		wrong("with a wrong step", one(), step, 1, api.ErrRange)
		wrong("with a wrong step", loud(10, 1000), step, 2, api.ErrRange)
	}
	for _, count := range []int{-1, 0, 21, smallest, greatest} {
		wrong("with a wrong count", one(), 1, count, api.ErrRange)
		wrong("with a wrong count", loud(10, 1000), 1, count, api.ErrRange)
	}
	none := one()
	none.Flaws = nil
	wrong("too far", none, 50001, 3, api.ErrRange)
	wrong("too far, backwards", none, -100000, 3, api.ErrRange)
	_, e := bench.Along(none, 50000, 3)
	wantError(t, "Along to the end", e, api.OK)
	_, e = bench.Along(none, 5263, 20)
	wantError(t, "Along to the end in twenty steps", e, api.OK)
	wrong("too far in twenty steps", none, 5264, 20, api.ErrRange)
	away := one()
	away.Flaws[0].From.X = 1
	wrong("to no place", away, -50000, 3, api.ErrRange)
	wrong("too loud", loud(10, 1000), 1, 1, api.ErrLarge)
	wrong("too loud, and too far then", loud(10, 1000), 100000, 3, api.ErrLarge)
	// Far away at first: the echoes are behind the trace, and come into it.
	coming := loud(10, 1000)
	for n := range coming.Flaws {
		coming.Flaws[n].From.X = 20000
	}
	wrong("too loud in the end", coming, 10000, 3, api.ErrLarge)
	_, e = bench.Along(coming, 10000, 2)
	wantError(t, "Along as long as it is not too loud", e, api.OK)
	wrong("to no place, and too loud then", coming, -80001, 2, api.ErrRange)
	for _, x := range wrongSpecimens() {
		wrong("of a wrong specimen", x.s, 1, 1, x.right)
		wrong("of a wrong specimen, with a wrong step and count", x.s, 100001, 0, x.right)
	}
}

// TestP4_4Order has flaws that are too loud at one place, and that cannot move to the next one.
func TestP4_4Order(t *testing.T) {
	s := loud(10, 1000)
	s.Flaws = append(slices.Clone(s.Flaws[:9]), pore(100000, 400, 0))
	l, e := bench.Along(s, -1, 2)
	want(t, "Along", l, e, nil, api.ErrLarge)
	s.Array.Times.First = api.MaxTime
	l, e = bench.Along(s, -1, 2)
	want(t, "Along without echoes", l, e, nil, api.ErrRange)
}
