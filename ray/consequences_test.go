package ray_test

import (
	"testing"

	"couplant/api"
	"couplant/ray"
)

func TestP1_6LeastTime(t *testing.T) {
	d := dice{8}
	for range 400 {
		x := d.cross(60, 80)
		least, e := ray.Least(x)
		wantError(t, "Least", e, api.OK)
		accepted, before := 0, -1
		for at := min(x.X1, x.X2); at <= max(x.X1, x.X2); at++ {
			l, _ := ray.TimeAt(x, at)
			if l.Hi < least.Lo {
				t.Errorf("at %d of %v the time %v is ahead of %v", at, x, l, least)
			}
			if ray.CheckCrossing(x, at) == api.OK {
				accepted++
			}
			s, _ := ray.SlopeAt(x, at)
			if s < before {
				t.Errorf("the slope of %v falls at %d", x, at)
			}
			before = s
		}
		want(t, "places that are accepted", accepted, api.OK, 1, api.OK)
		k, _ := ray.Crossing(x)
		wantError(t, "CheckCrossing of Crossing", ray.CheckCrossing(x, k), api.OK)
		first, _ := ray.SlopeAt(x, min(x.X1, x.X2))
		last, _ := ray.SlopeAt(x, max(x.X1, x.X2))
		if first > 0 || last < 0 {
			t.Errorf("the slopes at the ends of %v: %d, %d", x, first, last)
		}
	}
}

// TestP1_6Enclosure has the same ways with all numbers greater: their whole places are finer, and must not be ahead either.
func TestP1_6Enclosure(t *testing.T) {
	const finer = 20
	d := dice{9}
	for range 400 {
		x := d.cross(60, 80)
		least, _ := ray.Least(x)
		fine := api.RayCross{X1: finer * x.X1, H1: finer * x.H1, V1: x.V1, X2: finer * x.X2, H2: finer * x.H2, V2: x.V2}
		k, _ := ray.Crossing(fine)
		l, _ := ray.TimeAt(fine, k)
		if l.Hi < finer*least.Lo {
			t.Errorf("between the places of %v the time %v / %d is ahead of %v", x, l, finer, least)
		}
	}
}

func TestP1_7Symmetry(t *testing.T) {
	d := dice{10}
	for n := range 1000 {
		x := d.cross([]int{20, 40000}[n%2], []int{30, api.MaxPlace}[n%2])
		l, _ := ray.Least(x)
		swapped, e := ray.Least(api.RayCross{X1: x.X2, H1: x.H2, V1: x.V2, X2: x.X1, H2: x.H1, V2: x.V1})
		if e != api.OK || !meet(l, swapped) {
			t.Errorf("Least of %v: %v; with both sides exchanged %v, error %d", x, l, swapped, e)
		}
		by := d.from(-50000, 50000)
		moved := x
		moved.X1, moved.X2 = x.X1+by, x.X2+by
		m, e := ray.Least(moved)
		want(t, "Least of a moved crossing", m, e, l, api.OK)
		k, _ := ray.Crossing(x)
		place, e := ray.Crossing(moved)
		want(t, "Crossing of a moved crossing", place, e, k+by, api.OK)
		mirrored := x
		mirrored.X1, mirrored.X2 = -x.X1, -x.X2
		m, e = ray.Least(mirrored)
		if e != api.OK || !meet(l, m) {
			t.Errorf("Least of %v: %v; mirrored %v, error %d", x, l, m, e)
		}
	}
}

func TestP1_8Skips(t *testing.T) {
	d := dice{11}
	for range 1000 {
		m, from, to := d.mode(2000)
		var times []api.Range
		var depths []int
		for m.Skips = 0; m.Skips <= api.MaxSkips; m.Skips++ {
			l, e := ray.LeastTime(m, from, to)
			wantError(t, "LeastTime", e, api.OK)
			for skips, fewer := range times {
				if l.Hi < fewer.Lo {
					t.Errorf("%v: %v is ahead of %v with %d skips", m, l, fewer, skips)
				}
			}
			times = append(times, l)
			depth, _ := ray.Unfolded(m, to.Z)
			depths = append(depths, depth)
		}
		for _, s := range []int{0, 2} {
			want(t, "two depths together", depths[s]+depths[s+1], api.OK, 2*m.Thick*(s+1), api.OK)
		}
	}
}

// TestP1_8OneSpeed compares ways through wedge and metal of one speed with straight ones.
func TestP1_8OneSpeed(t *testing.T) {
	d := dice{12}
	for range 1000 {
		m, from, to := d.mode(2000)
		m.Metal = m.Wedge
		l, _ := ray.LeastTime(m, from, to)
		depth, _ := ray.Unfolded(m, to.Z)
		straight, e := ray.TimeOf(from, api.Spot{X: to.X, Z: depth}, m.Wedge)
		if e != api.OK || !meet(l, straight) {
			t.Errorf("%v from %v to %v: %v, straight %v", m, from, to, l, straight)
		}
	}
}

func TestP1_9Snell(t *testing.T) {
	d := dice{13}
	passed := 0
	for range 20000 {
		across, down := d.from(-30, 30), d.from(1, 30)
		first, second := 100*d.from(5, 100), 100*d.from(5, 100)
		direction := [2]int{across, down}
		passes, e := ray.Passes(direction, first, second)
		wantError(t, "Passes", e, api.OK)
		square := across * across
		all := square + down*down
		want(t, "Passes", passes, e, square*second*second <= first*first*all, api.OK)
		f, e := ray.BehindSquare(direction, first, second)
		if !passes {
			want(t, "BehindSquare", f, e, api.Frac{}, api.ErrNone)
			continue
		}
		passed++
		if e != api.OK || f.Num < 0 || f.Num > f.Den {
			t.Errorf("BehindSquare of %v from %d to %d: %v, error %d", direction, first, second, f, e)
		}
		if f.Num*first*first*all != square*f.Den*second*second {
			t.Errorf("%v is not that of %v in front of the plane from %d to %d", f, direction, first, second)
		}
		least, e := ray.CriticalSquare(first, second)
		if e == api.OK && square*least.Den > least.Num*all {
			t.Errorf("%v passes beyond %v", direction, least)
		}
	}
	if passed < 1000 {
		t.Errorf("only %d directions have passed", passed)
	}
}
