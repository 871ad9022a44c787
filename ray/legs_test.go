package ray_test

import (
	"testing"

	"couplant/api"
	"couplant/ray"
)

func TestP1_1Lengths(t *testing.T) {
	for _, x := range []struct {
		a, b  api.Spot
		right api.Range
	}{
		{api.Spot{}, api.Spot{X: 300, Z: 400}, api.Range{Lo: 500000, Hi: 500000}},
		{api.Spot{}, api.Spot{X: 1, Z: 1}, api.Range{Lo: 1414, Hi: 1415}},
		{api.Spot{X: 5, Z: -7}, api.Spot{X: 2, Z: -3}, api.Range{Lo: 5000, Hi: 5000}},
		{api.Spot{X: -1, Z: 9}, api.Spot{X: 1, Z: 8}, api.Range{Lo: 2236, Hi: 2237}},
		{api.Spot{X: 7, Z: 7}, api.Spot{X: 7, Z: 7}, api.Range{}},
		{api.Spot{X: 7, Z: 7}, api.Spot{X: 7, Z: 8}, api.Range{Lo: 1000, Hi: 1000}},
		{api.Spot{X: -100000, Z: -100000}, api.Spot{X: 100000, Z: 100000}, api.Range{Lo: 282842712, Hi: 282842713}},
		{api.Spot{X: 100000, Z: -100000}, api.Spot{X: 99999, Z: 100000}, api.Range{Lo: 200000000, Hi: 200000001}},
	} {
		l, e := ray.Length(x.a, x.b)
		want(t, "Length", l, e, x.right, api.OK)
		l, e = ray.Length(x.b, x.a)
		want(t, "Length back", l, e, x.right, api.OK)
	}
}

func TestP1_1Times(t *testing.T) {
	for _, x := range []struct {
		a, b  api.Spot
		speed int
		right api.Range
	}{
		{api.Spot{}, api.Spot{X: 300, Z: 400}, 5000, api.Range{Lo: 1000000, Hi: 1000000}},
		{api.Spot{}, api.Spot{X: 1, Z: 1}, 5000, api.Range{Lo: 2828, Hi: 2830}},
		{api.Spot{}, api.Spot{X: 1}, 3000, api.Range{Lo: 3333, Hi: 3334}},
		{api.Spot{Z: 1}, api.Spot{}, 3000, api.Range{Lo: 3333, Hi: 3334}},
		{api.Spot{}, api.Spot{X: 1, Z: -1}, 3000, api.Range{Lo: 4713, Hi: 4717}},
		{api.Spot{}, api.Spot{X: 1}, 500, api.Range{Lo: 20000, Hi: 20000}},
		{api.Spot{}, api.Spot{X: 1}, 10000, api.Range{Lo: 1000, Hi: 1000}},
		{api.Spot{X: 9, Z: 9}, api.Spot{X: 9, Z: 9}, 501, api.Range{}},
		{api.Spot{X: -100000, Z: -100000}, api.Spot{X: 100000, Z: 100000}, 500, api.Range{Lo: 5656854240, Hi: 5656854260}},
	} {
		l, e := ray.TimeOf(x.a, x.b, x.speed)
		want(t, "TimeOf", l, e, x.right, api.OK)
	}
}

// TestP1_1Definition holds lengths and times against the definitions.
func TestP1_1Definition(t *testing.T) {
	d := dice{1}
	for n := range 4000 {
		wide := []int{3, 200, api.MaxPlace}[n%3]
		a := api.Spot{X: d.from(-wide, wide), Z: d.from(-wide, wide)}
		b := api.Spot{X: d.from(-wide, wide), Z: d.from(-wide, wide)}
		speed := d.from(api.LeastSpeed, api.MaxSpeed)
		l, e := ray.Length(a, b)
		want(t, "Length", l, e, rightLength(b.X-a.X, b.Z-a.Z), api.OK)
		l, e = ray.TimeOf(a, b, speed)
		want(t, "TimeOf", l, e, rightTime(b.X-a.X, b.Z-a.Z, speed), api.OK)
	}
}

// wrongPlaces are outside of all places.
func wrongPlaces() []api.Spot {
	return []api.Spot{{X: 100001}, {X: -100001}, {Z: 100001}, {Z: -100001}, {X: smallest}, {Z: smallest}, {X: greatest}, {Z: greatest}}
}

func TestP1_1Errors(t *testing.T) {
	for _, p := range wrongPlaces() {
		l, e := ray.Length(p, api.Spot{})
		want(t, "Length from outside", l, e, api.Range{}, api.ErrRange)
		l, e = ray.Length(api.Spot{}, p)
		want(t, "Length to outside", l, e, api.Range{}, api.ErrRange)
		l, e = ray.Length(p, p)
		want(t, "Length outside", l, e, api.Range{}, api.ErrRange)
		l, e = ray.TimeOf(p, api.Spot{}, 5000)
		want(t, "TimeOf from outside", l, e, api.Range{}, api.ErrRange)
		l, e = ray.TimeOf(api.Spot{}, p, 5000)
		want(t, "TimeOf to outside", l, e, api.Range{}, api.ErrRange)
	}
	for _, speed := range []int{499, 10001, 0, -500, smallest, greatest} {
		l, e := ray.TimeOf(api.Spot{}, api.Spot{X: 1}, speed)
		want(t, "TimeOf with a wrong speed", l, e, api.Range{}, api.ErrRange)
		l, e = ray.TimeOf(api.Spot{X: 1}, api.Spot{X: 1}, speed)
		want(t, "TimeOf nowhere with a wrong speed", l, e, api.Range{}, api.ErrRange)
	}
}
