package ray_test

import (
	"testing"

	"couplant/api"
	"couplant/ray"
)

// middle is a crossing whose least time is in the middle.
func middle() api.RayCross {
	return api.RayCross{X1: 0, H1: 300, V1: 2500, X2: 800, H2: 300, V2: 2500}
}

// wrongCrosses are crossings with one wrong number each.
func wrongCrosses() []api.RayCross {
	var l []api.RayCross
	put := func(change func(x *api.RayCross)) {
		x := middle()
		change(&x)
		l = append(l, x)
	}
	for _, n := range []int{100001, -100001, smallest, greatest} {
		put(func(x *api.RayCross) { x.X1 = n })
		put(func(x *api.RayCross) { x.X2 = n })
	}
	for _, n := range []int{0, -1, 100001, smallest, greatest} {
		put(func(x *api.RayCross) { x.H1 = n })
		put(func(x *api.RayCross) { x.H2 = n })
	}
	for _, n := range []int{0, -1, 499, 10001, smallest, greatest} {
		put(func(x *api.RayCross) { x.V1 = n })
		put(func(x *api.RayCross) { x.V2 = n })
	}
	return l
}

func TestP1_2CheckCross(t *testing.T) {
	for _, x := range []api.RayCross{
		middle(),
		{X1: 100000, H1: 1, V1: 500, X2: -100000, H2: 100000, V2: 10000},
		{X1: -100000, H1: 100000, V1: 10000, X2: 100000, H2: 1, V2: 500},
	} {
		wantError(t, "CheckCross", ray.CheckCross(x), api.OK)
	}
	for _, x := range wrongCrosses() {
		wantError(t, "CheckCross of a wrong one", ray.CheckCross(x), api.ErrRange)
		s, e := ray.SlopeAt(x, 400)
		want(t, "SlopeAt of a wrong one", s, e, 0, api.ErrRange)
		l, e := ray.TimeAt(x, 400)
		want(t, "TimeAt of a wrong one", l, e, api.Range{}, api.ErrRange)
		k, e := ray.Crossing(x)
		want(t, "Crossing of a wrong one", k, e, 0, api.ErrRange)
		wantError(t, "CheckCrossing of a wrong one", ray.CheckCrossing(x, 399), api.ErrRange)
		l, e = ray.Least(x)
		want(t, "Least of a wrong one", l, e, api.Range{}, api.ErrRange)
	}
}

func TestP1_2SlopeAt(t *testing.T) {
	two := api.RayCross{X1: 0, H1: 300, V1: 2500, X2: 1000, H2: 300, V2: 5000}
	back := api.RayCross{X1: 800, H1: 300, V1: 2500, X2: 0, H2: 300, V2: 2500}
	down := api.RayCross{X1: 7, H1: 1, V1: 2500, X2: 7, H2: 9, V2: 5000}
	for _, x := range []struct {
		x         api.RayCross
		at, right int
	}{
		{middle(), 0, -1}, {middle(), 399, -1}, {middle(), 400, 0}, {middle(), 401, 1}, {middle(), 800, 1},
		{back, 0, -1}, {back, 399, -1}, {back, 400, 0}, {back, 401, 1}, {back, 800, 1},
		{two, 300, 1}, {down, 7, 0},
	} {
		s, e := ray.SlopeAt(x.x, x.at)
		want(t, "SlopeAt", s, e, x.right, api.OK)
	}
}

// TestP1_2Outside asks for places beyond both places of a crossing.
func TestP1_2Outside(t *testing.T) {
	back := api.RayCross{X1: 800, H1: 300, V1: 2500, X2: 0, H2: 300, V2: 2500}
	for _, x := range []api.RayCross{middle(), back} {
		for _, at := range []int{-1, 801, smallest, greatest} {
			s, e := ray.SlopeAt(x, at)
			want(t, "SlopeAt outside", s, e, 0, api.ErrRange)
			l, e := ray.TimeAt(x, at)
			want(t, "TimeAt outside", l, e, api.Range{}, api.ErrRange)
			wantError(t, "CheckCrossing outside", ray.CheckCrossing(x, at), api.ErrRange)
		}
	}
}

func TestP1_2TimeAt(t *testing.T) {
	for _, x := range []struct {
		at    int
		right api.Range
	}{
		{400, api.Range{Lo: 4000000, Hi: 4000000}},
		{401, api.Range{Lo: 4000000, Hi: 4000008}},
		{0, rightTimeAt(middle(), 0)},
		{800, rightTimeAt(middle(), 800)},
	} {
		l, e := ray.TimeAt(middle(), x.at)
		want(t, "TimeAt", l, e, x.right, api.OK)
	}
}

func TestP1_2Crossing(t *testing.T) {
	for _, x := range []struct {
		x     api.RayCross
		right int
	}{
		{middle(), 400},
		{api.RayCross{X1: 0, H1: 300, V1: 2500, X2: 801, H2: 300, V2: 2500}, 400},
		{api.RayCross{X1: 801, H1: 300, V1: 2500, X2: 0, H2: 300, V2: 2500}, 400},
		{api.RayCross{X1: 0, H1: 300, V1: 2500, X2: -801, H2: 300, V2: 2500}, -401},
		{api.RayCross{X1: 7, H1: 1, V1: 2500, X2: 7, H2: 1, V2: 5000}, 7},
		{api.RayCross{X1: 0, H1: 100, V1: 4000, X2: 400, H2: 300, V2: 4000}, 100},
		{api.RayCross{X1: 100000, H1: 1, V1: 10000, X2: -100000, H2: 100000, V2: 9999}, 99997},
		{api.RayCross{X1: -100000, H1: 100000, V1: 10000, X2: 100000, H2: 100000, V2: 500}, 95543},
	} {
		k, e := ray.Crossing(x.x)
		want(t, "Crossing", k, e, x.right, api.OK)
		wantError(t, "CheckCrossing", ray.CheckCrossing(x.x, x.right), api.OK)
	}
}

func TestP1_2CheckCrossing(t *testing.T) {
	for at := range 801 {
		right := api.ErrProof
		if at == 400 {
			right = api.OK
		}
		wantError(t, "CheckCrossing", ray.CheckCrossing(middle(), at), right)
	}
}

func TestP1_2Least(t *testing.T) {
	for _, x := range []struct {
		x     api.RayCross
		right api.Range
	}{
		{middle(), api.Range{Lo: 3999972, Hi: 4000000}},
		{api.RayCross{X1: 0, H1: 300, V1: 2500, X2: 0, H2: 1600, V2: 5000}, api.Range{Lo: 4399984, Hi: 4400000}},
		// The bound is greater than the time, as both are rounded.
		{api.RayCross{X1: 0, H1: 1, V1: 3000, X2: 0, H2: 1, V2: 3000}, api.Range{Lo: 0, Hi: 6668}},
		{api.RayCross{X1: 0, H1: 1, V1: 500, X2: 0, H2: 1, V2: 500}, api.Range{Lo: 0, Hi: 40000}},
		// The time at the next place is less than that at the crossing.
		{api.RayCross{X1: 100000, H1: 1, V1: 10000, X2: -100000, H2: 100000, V2: 9999}, api.Range{Lo: 223628605, Hi: 223629609}},
		{api.RayCross{X1: 0, H1: 3, V1: 2330, X2: 10, H2: 5, V2: 5900}, api.Range{Lo: 29249, Hi: 31027}},
	} {
		l, e := ray.Least(x.x)
		want(t, "Least", l, e, x.right, api.OK)
	}
}

// TestP1_2Definition holds crossings against the definitions, place by place.
func TestP1_2Definition(t *testing.T) {
	d := dice{2}
	for range 500 {
		x := d.cross(30, 40)
		for at := min(x.X1, x.X2); at <= max(x.X1, x.X2); at++ {
			s, e := ray.SlopeAt(x, at)
			want(t, "SlopeAt", s, e, rightSlope(x, at), api.OK)
			l, e := ray.TimeAt(x, at)
			want(t, "TimeAt", l, e, rightTimeAt(x, at), api.OK)
		}
		right := rightPlace(x)
		k, e := ray.Crossing(x)
		want(t, "Crossing", k, e, right, api.OK)
		l, e := ray.Least(x)
		want(t, "Least", l, e, rightLeast(x, right), api.OK)
	}
}

// TestP1_2Far does so for crossings whose products are greater than a word.
func TestP1_2Far(t *testing.T) {
	d := dice{3}
	for range 3000 {
		x := d.cross(api.MaxPlace, api.MaxPlace)
		at := d.from(min(x.X1, x.X2), max(x.X1, x.X2))
		s, e := ray.SlopeAt(x, at)
		want(t, "SlopeAt far away", s, e, rightSlope(x, at), api.OK)
		l, e := ray.TimeAt(x, at)
		want(t, "TimeAt far away", l, e, rightTimeAt(x, at), api.OK)
		k, e := ray.Crossing(x)
		if e != api.OK || rightSlope(x, k) > 0 || k < max(x.X1, x.X2) && rightSlope(x, k+1) <= 0 {
			t.Errorf("Crossing of %v: %d, error %d", x, k, e)
		}
		l, e = ray.Least(x)
		want(t, "Least far away", l, e, rightLeast(x, k), api.OK)
	}
}

// TestP1_2Even has crossings whose slope is exactly 0 at a whole place, however far away it is.
func TestP1_2Even(t *testing.T) {
	d := dice{4}
	for range 500 {
		half, height := d.from(1, api.MaxPlace), d.from(1, api.MaxPlace)
		speed := d.from(api.LeastSpeed, api.MaxSpeed)
		x := api.RayCross{X1: -half, H1: height, V1: speed, X2: half, H2: height, V2: speed}
		for at, right := range map[int]int{-1: -1, 0: 0, 1: 1} {
			s, e := ray.SlopeAt(x, at)
			want(t, "SlopeAt in the middle", s, e, right, api.OK)
		}
		k, e := ray.Crossing(x)
		want(t, "Crossing in the middle", k, e, 0, api.OK)
	}
}
