package ray_test

import (
	"slices"
	"testing"

	"couplant/api"
	"couplant/ray"
)

// bend is a turn from the surface to a depth.
func bend() api.RayTurn {
	return api.RayTurn{From: api.Spot{}, To: api.Spot{X: 600, Z: 600}, Thick: 1000, First: 5000, Second: 2500}
}

func TestP1_4TurnedTime(t *testing.T) {
	for _, x := range []struct {
		turn  api.RayTurn
		cross api.RayCross
	}{
		{bend(), api.RayCross{X1: 0, H1: 1000, V1: 5000, X2: 600, H2: 400, V2: 2500}},
		{api.RayTurn{From: api.Spot{X: -9, Z: 999}, To: api.Spot{X: 40}, Thick: 1000, First: 3200, Second: 5900}, api.RayCross{X1: -9, H1: 1, V1: 3200, X2: 40, H2: 1000, V2: 5900}},
		{api.RayTurn{From: api.Spot{X: 50, Z: 1}, To: api.Spot{X: -50, Z: 1}, Thick: 2, First: 500, Second: 10000}, api.RayCross{X1: 50, H1: 1, V1: 500, X2: -50, H2: 1, V2: 10000}},
		{api.RayTurn{From: api.Spot{X: 100000}, To: api.Spot{X: -100000, Z: 19999}, Thick: 20000, First: 10000, Second: 500}, api.RayCross{X1: 100000, H1: 20000, V1: 10000, X2: -100000, H2: 1, V2: 500}},
	} {
		right := rightLeast(x.cross, rightPlace(x.cross))
		l, e := ray.TurnedTime(x.turn)
		want(t, "TurnedTime", l, e, right, api.OK)
	}
	down := bend()
	down.To.X = 0
	l, e := ray.TurnedTime(down)
	want(t, "TurnedTime straight down", l, e, api.Range{Lo: 3599988, Hi: 3600000}, api.OK)
}

func TestP1_4TurnedTimeErrors(t *testing.T) {
	wrong := func(what string, right api.Errno, change func(x *api.RayTurn)) {
		t.Helper()
		x := bend()
		change(&x)
		l, e := ray.TurnedTime(x)
		want(t, "TurnedTime with "+what, l, e, api.Range{}, right)
	}
	for _, p := range wrongPlaces() {
		wrong("From outside", api.ErrRange, func(x *api.RayTurn) { x.From = p })
		wrong("To outside", api.ErrRange, func(x *api.RayTurn) { x.To = p })
		wrong("To outside, From not in the plate", api.ErrRange, func(x *api.RayTurn) { x.From.Z, x.To = -1, p })
	}
	for _, thick := range []int{-1, 0, 1, 20001, smallest, greatest} {
		wrong("a wrong thickness", api.ErrRange, func(x *api.RayTurn) { x.Thick = thick })
	}
	for _, z := range []int{-1, 1000, 1001, 100000, -100000} {
		wrong("From not in the plate", api.ErrBreak, func(x *api.RayTurn) { x.From.Z = z })
		wrong("To not in the plate", api.ErrBreak, func(x *api.RayTurn) { x.To.Z = z })
		wrong("To not in the plate, and a wrong speed", api.ErrBreak, func(x *api.RayTurn) { x.To.Z, x.First, x.Second = z, 0, 0 })
		wrong("a wrong thickness, From not in the plate", api.ErrRange, func(x *api.RayTurn) { x.From.Z, x.Thick = z, 20001 })
	}
	for _, speed := range []int{-1, 0, 499, 10001, smallest, greatest} {
		wrong("a wrong first speed", api.ErrRange, func(x *api.RayTurn) { x.First = speed })
		wrong("a wrong second speed", api.ErrRange, func(x *api.RayTurn) { x.Second = speed })
	}
}

// echo goes to a place by one mode, and back to another element by another one.
func echo() api.RayEcho {
	return api.RayEcho{Out: plate(0), Back: plate(1), From: api.Spot{Z: -300}, At: api.Spot{Z: 400}, To: api.Spot{Z: -300}}
}

func TestP1_4EchoTime(t *testing.T) {
	l, e := ray.EchoTime(echo())
	want(t, "EchoTime", l, e, api.Range{Lo: 1999981 + 4399984, Hi: 6400000}, api.OK)
	both := echo()
	both.Out = plate(1)
	l, e = ray.EchoTime(both)
	want(t, "EchoTime with one mode", l, e, api.Range{Lo: 8799968, Hi: 8800000}, api.OK)
	d := dice{6}
	for range 300 {
		out, from, at := d.mode(500)
		back, to, _ := d.mode(500)
		back.Thick = d.from(at.Z+1, at.Z+900)
		a, _ := ray.LeastTime(out, from, at)
		b, _ := ray.LeastTime(back, to, at)
		l, e = ray.EchoTime(api.RayEcho{Out: out, Back: back, From: from, At: at, To: to})
		want(t, "EchoTime", l, e, api.Range{Lo: a.Lo + b.Lo, Hi: a.Hi + b.Hi}, api.OK)
	}
}

func TestP1_4EchoTimeErrors(t *testing.T) {
	wrong := func(what string, right api.Errno, change func(x *api.RayEcho)) {
		t.Helper()
		x := echo()
		change(&x)
		l, e := ray.EchoTime(x)
		want(t, "EchoTime with "+what, l, e, api.Range{}, right)
	}
	for _, m := range wrongModes() {
		wrong("a wrong Out", api.ErrRange, func(x *api.RayEcho) { x.Out = m })
		wrong("a wrong Back", api.ErrRange, func(x *api.RayEcho) { x.Back = m })
		wrong("a wrong Out, and a wrong way", api.ErrRange, func(x *api.RayEcho) { x.Out, x.From.Z = m, 0 })
		wrong("a wrong Back, and a wrong way", api.ErrRange, func(x *api.RayEcho) { x.Back, x.From.Z = m, 0 })
	}
	for _, w := range wrongWays() {
		wrong("a wrong way out", w.right, func(x *api.RayEcho) { x.From, x.At = w.from, w.to })
		if w.to == echo().At {
			wrong("a wrong way back", w.right, func(x *api.RayEcho) { x.To = w.from })
		}
	}
	wrong("both ways wrong", api.ErrKind, func(x *api.RayEcho) { x.From.Z, x.To.X = 0, 100001 })
	wrong("a place at the back wall, and a wrong way back", api.ErrBreak, func(x *api.RayEcho) { x.At.Z, x.To.Z = 1000, 0 })
	wrong("a place behind a thinner plate", api.ErrBreak, func(x *api.RayEcho) { x.Out.Thick = 400 })
	wrong("a place behind a thinner plate on the way back", api.ErrBreak, func(x *api.RayEcho) { x.Back.Thick = 400 })
	wrong("a wrong way back to a thinner plate", api.ErrKind, func(x *api.RayEcho) { x.Back.Thick, x.To.Z = 400, 0 })
}

func TestP1_4MayBeFirst(t *testing.T) {
	wedge := func(speed int) api.RayMode { return api.RayMode{Wedge: speed, Metal: 5000, Thick: 1000} }
	from, to := api.Spot{Z: -20}, api.Spot{Z: 400}
	for _, x := range []struct {
		l     []api.RayMode
		right []int
	}{
		{[]api.RayMode{plate(1)}, []int{0}},
		{[]api.RayMode{plate(1), plate(0), plate(0)}, []int{1, 2}},
		{[]api.RayMode{plate(0), plate(1), plate(2), plate(3), plate(4), plate(1), plate(2), plate(0)}, []int{0, 7}},
		// 2313 begins just when 2319 ends; 2302 begins one picosecond after 2308 ends.
		{[]api.RayMode{wedge(2313), wedge(2319)}, []int{0, 1}},
		{[]api.RayMode{wedge(2319), wedge(2313)}, []int{0, 1}},
		{[]api.RayMode{wedge(2302), wedge(2308)}, []int{1}},
		{[]api.RayMode{wedge(2308), wedge(2302)}, []int{0}},
		{[]api.RayMode{wedge(2313), wedge(2316), wedge(2319)}, []int{0, 1, 2}},
		// 2302 may be ahead of 2305, but not of 2308.
		{[]api.RayMode{wedge(2302), wedge(2305), wedge(2308)}, []int{1, 2}},
	} {
		l, e := ray.MayBeFirst(x.l, from, to)
		wantList(t, "MayBeFirst", l, e, x.right, api.OK)
	}
}

// TestP1_4MayBeFirstDefinition compares each mode with each other one.
func TestP1_4MayBeFirstDefinition(t *testing.T) {
	d := dice{7}
	for range 500 {
		base, from, to := d.mode(40)
		var l []api.RayMode
		for range d.from(1, api.MaxRayModes) {
			m := base
			m.Wedge = min(api.MaxSpeed, m.Wedge+d.from(0, 20))
			l = append(l, m)
		}
		var right []int
		for n, m := range l {
			a, _ := ray.LeastTime(m, from, to)
			first := true
			for k, other := range l {
				b, _ := ray.LeastTime(other, from, to)
				first = first && (k == n || a.Lo <= b.Hi)
			}
			if first {
				right = append(right, n)
			}
		}
		before := slices.Clone(l)
		got, e := ray.MayBeFirst(l, from, to)
		wantList(t, "MayBeFirst", got, e, right, api.OK)
		wantList(t, "the argument of MayBeFirst", l, api.OK, before, api.OK)
	}
}

func TestP1_4MayBeFirstErrors(t *testing.T) {
	from, to, outside := api.Spot{Z: -300}, api.Spot{Z: 400}, api.Spot{X: 100001}
	thin := api.RayMode{Wedge: 2500, Metal: 5000, Thick: 400}
	nine := slices.Repeat([]api.RayMode{plate(0)}, 9)
	for _, x := range []struct {
		l        []api.RayMode
		from, to api.Spot
		right    api.Errno
	}{
		{nil, from, to, api.ErrShape},
		{[]api.RayMode{}, outside, outside, api.ErrShape},
		{nine, from, to, api.ErrLarge},
		{nine, outside, outside, api.ErrLarge},
		{append(slices.Clone(nine), api.RayMode{}), from, to, api.ErrLarge},
		{[]api.RayMode{plate(0), thin}, from, to, api.ErrBreak},
		{[]api.RayMode{thin, {}}, from, to, api.ErrBreak},
		{[]api.RayMode{{}, thin}, from, to, api.ErrRange},
		{[]api.RayMode{{}}, api.Spot{}, to, api.ErrRange},
		{[]api.RayMode{plate(0), {}}, api.Spot{}, to, api.ErrKind},
		{[]api.RayMode{plate(0)}, from, outside, api.ErrRange},
	} {
		l, e := ray.MayBeFirst(x.l, x.from, x.to)
		wantList(t, "MayBeFirst", l, e, nil, x.right)
	}
	for _, m := range wrongModes() {
		l, e := ray.MayBeFirst([]api.RayMode{plate(0), m}, from, to)
		wantList(t, "MayBeFirst with a wrong mode", l, e, nil, api.ErrRange)
	}
	for _, w := range wrongWays() {
		l, e := ray.MayBeFirst([]api.RayMode{plate(0)}, w.from, w.to)
		wantList(t, "MayBeFirst with a wrong way", l, e, nil, w.right)
	}
	_, e := ray.MayBeFirst(nine[:8], from, to)
	wantError(t, "MayBeFirst of eight", e, api.OK)
}
