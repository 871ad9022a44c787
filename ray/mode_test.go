package ray_test

import (
	"testing"

	"couplant/api"
	"couplant/ray"
)

// plate is a mode with so many skips.
func plate(skips int) api.RayMode {
	return api.RayMode{Wedge: 2500, Metal: 5000, Skips: skips, Thick: 1000}
}

// wrongModes are modes with one wrong number each.
func wrongModes() []api.RayMode {
	var l []api.RayMode
	put := func(change func(m *api.RayMode)) {
		m := plate(1)
		change(&m)
		l = append(l, m)
	}
	for _, n := range []int{0, -1, 499, 10001, smallest, greatest} {
		put(func(m *api.RayMode) { m.Wedge = n })
		put(func(m *api.RayMode) { m.Metal = n })
	}
	for _, n := range []int{-1, 5, smallest, greatest} {
		put(func(m *api.RayMode) { m.Skips = n })
	}
	for _, n := range []int{-1, 0, 1, 20001, smallest, greatest} {
		put(func(m *api.RayMode) { m.Thick = n })
	}
	return l
}

func TestP1_3CheckMode(t *testing.T) {
	for _, m := range []api.RayMode{
		plate(0), plate(4),
		{Wedge: 500, Metal: 10000, Skips: 4, Thick: 20000},
		{Wedge: 10000, Metal: 500, Skips: 0, Thick: 2},
	} {
		wantError(t, "CheckMode", ray.CheckMode(m), api.OK)
	}
	for _, m := range wrongModes() {
		wantError(t, "CheckMode of a wrong one", ray.CheckMode(m), api.ErrRange)
	}
}

func TestP1_3Unfolded(t *testing.T) {
	for _, x := range []struct{ skips, z, right int }{
		{0, 400, 400}, {1, 400, 1600}, {2, 400, 2400}, {3, 400, 3600}, {4, 400, 4400},
		{0, 1, 1}, {0, 999, 999}, {1, 1, 1999}, {1, 999, 1001}, {4, 999, 4999},
	} {
		n, e := ray.Unfolded(plate(x.skips), x.z)
		want(t, "Unfolded", n, e, x.right, api.OK)
	}
	n, e := ray.Unfolded(api.RayMode{Wedge: 500, Metal: 500, Skips: 4, Thick: 20000}, 19999)
	want(t, "Unfolded deepest", n, e, 99999, api.OK)
	for _, z := range []int{0, 1000, -1, 1001, smallest, greatest} {
		n, e := ray.Unfolded(plate(1), z)
		want(t, "Unfolded outside of the plate", n, e, 0, api.ErrBreak)
	}
	for _, m := range wrongModes() {
		n, e := ray.Unfolded(m, 0)
		want(t, "Unfolded of a wrong mode", n, e, 0, api.ErrRange)
	}
}

func TestP1_3CrossOf(t *testing.T) {
	for _, x := range []struct {
		skips, height int
	}{{0, 400}, {1, 1600}, {2, 2400}, {3, 3600}, {4, 4400}} {
		got, e := ray.CrossOf(plate(x.skips), api.Spot{X: 5, Z: -300}, api.Spot{X: -9, Z: 400})
		right := api.RayCross{X1: 5, H1: 300, V1: 2500, X2: -9, H2: x.height, V2: 5000}
		want(t, "CrossOf", got, e, right, api.OK)
	}
	far := api.RayMode{Wedge: 500, Metal: 10000, Skips: 4, Thick: 20000}
	got, e := ray.CrossOf(far, api.Spot{X: -100000, Z: -100000}, api.Spot{X: 100000, Z: 19999})
	want(t, "CrossOf far away", got, e, api.RayCross{X1: -100000, H1: 100000, V1: 500, X2: 100000, H2: 99999, V2: 10000}, api.OK)
}

func TestP1_3Times(t *testing.T) {
	from, to := api.Spot{Z: -300}, api.Spot{Z: 400}
	for _, x := range []struct {
		skips   int
		right   api.Range
		rounded int
	}{
		{0, api.Range{Lo: 1999981, Hi: 2000000}, 1999990},
		{1, api.Range{Lo: 4399984, Hi: 4400000}, 4399992},
	} {
		l, e := ray.LeastTime(plate(x.skips), from, to)
		want(t, "LeastTime", l, e, x.right, api.OK)
		n, e := ray.RoundedTime(plate(x.skips), from, to)
		want(t, "RoundedTime", n, e, x.rounded, api.OK)
	}
}

// TestP1_3Definition holds the times and the walls of modes against the definitions.
func TestP1_3Definition(t *testing.T) {
	d := dice{5}
	for range 1000 {
		m, from, to := d.mode(600)
		depth := m.Skips*m.Thick + to.Z
		if m.Skips%2 == 1 {
			depth = (m.Skips+1)*m.Thick - to.Z
		}
		x := api.RayCross{X1: from.X, H1: -from.Z, V1: m.Wedge, X2: to.X, H2: depth, V2: m.Metal}
		got, e := ray.CrossOf(m, from, to)
		want(t, "CrossOf", got, e, x, api.OK)
		k := rightPlace(x)
		right := rightLeast(x, k)
		l, e := ray.LeastTime(m, from, to)
		want(t, "LeastTime", l, e, right, api.OK)
		n, e := ray.RoundedTime(m, from, to)
		want(t, "RoundedTime", n, e, (right.Lo+right.Hi)/2, api.OK)
		var walls []api.Range
		for j := 1; j <= m.Skips; j++ {
			r := divided(product(to.X-k, j, m.Thick), depth)
			walls = append(walls, api.Range{Lo: k + r.Lo, Hi: k + r.Hi})
		}
		w, e := ray.Walls(m, from, to)
		wantList(t, "Walls", w, e, walls, api.OK)
	}
}

func TestP1_3Walls(t *testing.T) {
	alike := api.RayMode{Wedge: 5000, Metal: 5000, Skips: 1, Thick: 1000}
	twice := api.RayMode{Wedge: 5000, Metal: 5000, Skips: 2, Thick: 500}
	for _, x := range []struct {
		m        api.RayMode
		from, to api.Spot
		right    []api.Range
	}{
		{plate(0), api.Spot{Z: -300}, api.Spot{X: 500, Z: 400}, nil},
		{plate(1), api.Spot{Z: -300}, api.Spot{Z: 400}, []api.Range{{}}},
		{plate(4), api.Spot{X: 6, Z: -300}, api.Spot{X: 6, Z: 400}, []api.Range{{Lo: 6, Hi: 6}, {Lo: 6, Hi: 6}, {Lo: 6, Hi: 6}, {Lo: 6, Hi: 6}}},
		{alike, api.Spot{Z: -300}, api.Spot{X: 1600, Z: 700}, []api.Range{{Lo: 1300, Hi: 1300}}},
		{alike, api.Spot{Z: -300}, api.Spot{X: -1600, Z: 700}, []api.Range{{Lo: -1300, Hi: -1300}}},
		// The crossing 100, the depth 1200: 100 and 300 * 500 / 1200; 100 and 300 * 1000 / 1200.
		{twice, api.Spot{Z: -400}, api.Spot{X: 400, Z: 200}, []api.Range{{Lo: 225, Hi: 225}, {Lo: 350, Hi: 350}}},
		// The exact place of least time is 125 * 400 / 1410 = 35.5: the crossing is 35, and mirrored -36.
		// The depth is 1010: 35 and 90 * 500 / 1010, and so on; mirrored -36 less 89 * 500 / 1010, and so on.
		{twice, api.Spot{Z: -400}, api.Spot{X: 125, Z: 10}, []api.Range{{Lo: 79, Hi: 80}, {Lo: 124, Hi: 125}}},
		{twice, api.Spot{Z: -400}, api.Spot{X: -125, Z: 10}, []api.Range{{Lo: -81, Hi: -80}, {Lo: -125, Hi: -124}}},
	} {
		w, e := ray.Walls(x.m, x.from, x.to)
		wantList(t, "Walls", w, e, x.right, api.OK)
	}
}

// way is a way with its error.
type way struct {
	from, to api.Spot
	right    api.Errno
}

// wrongWays are ways of plates of the thickness 1000.
func wrongWays() []way {
	l := []way{
		{api.Spot{Z: 0}, api.Spot{Z: 400}, api.ErrKind},
		{api.Spot{Z: 1}, api.Spot{Z: 400}, api.ErrKind},
		{api.Spot{Z: -1}, api.Spot{Z: 0}, api.ErrBreak},
		{api.Spot{Z: -1}, api.Spot{Z: -1}, api.ErrBreak},
		{api.Spot{Z: -1}, api.Spot{Z: 1000}, api.ErrBreak},
		{api.Spot{Z: -1}, api.Spot{Z: 1001}, api.ErrBreak},
		{api.Spot{Z: 0}, api.Spot{Z: 1000}, api.ErrKind},
		{api.Spot{Z: 0}, api.Spot{X: 100001, Z: 400}, api.ErrRange},
		{api.Spot{Z: -1}, api.Spot{X: -100001, Z: 0}, api.ErrRange},
		{api.Spot{X: 100001, Z: 0}, api.Spot{Z: 1000}, api.ErrRange},
	}
	for _, p := range wrongPlaces() {
		l = append(l, way{p, api.Spot{Z: 400}, api.ErrRange}, way{api.Spot{Z: -1}, p, api.ErrRange})
	}
	return l
}

// wantWayError asks all functions of a mode and a way for their error.
func wantWayError(t *testing.T, m api.RayMode, from, to api.Spot, right api.Errno) {
	t.Helper()
	x, e := ray.CrossOf(m, from, to)
	want(t, "CrossOf", x, e, api.RayCross{}, right)
	l, e := ray.LeastTime(m, from, to)
	want(t, "LeastTime", l, e, api.Range{}, right)
	n, e := ray.RoundedTime(m, from, to)
	want(t, "RoundedTime", n, e, 0, right)
	w, e := ray.Walls(m, from, to)
	wantList(t, "Walls", w, e, nil, right)
}

func TestP1_3Errors(t *testing.T) {
	for _, x := range wrongWays() {
		wantWayError(t, plate(1), x.from, x.to, x.right)
	}
	for _, m := range wrongModes() {
		wantWayError(t, m, api.Spot{Z: -300}, api.Spot{Z: 1}, api.ErrRange)
		wantWayError(t, m, api.Spot{Z: 0}, api.Spot{Z: 0}, api.ErrRange)
	}
	_, e := ray.LeastTime(plate(0), api.Spot{Z: -1}, api.Spot{Z: 1})
	wantError(t, "LeastTime just inside", e, api.OK)
	_, e = ray.LeastTime(plate(0), api.Spot{X: 100000, Z: -100000}, api.Spot{X: -100000, Z: 999})
	wantError(t, "LeastTime from the last place", e, api.OK)
}
