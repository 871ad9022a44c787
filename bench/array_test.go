package bench_test

import (
	"testing"

	"couplant/api"
	"couplant/bench"
	"couplant/ray"
)

func TestP4_2EchoAt(t *testing.T) {
	at := api.Spot{Z: 400}
	n, e := bench.EchoAt(one().Array, at, [2]int{})
	want(t, "EchoAt", n, e, 3999980, api.OK)
	r, e := bench.EchoRange(one().Array, at, [2]int{})
	want(t, "EchoRange", r, e, api.Range{Lo: 3999962, Hi: 4000000}, api.OK)
	n, e = bench.SampleOf(one().Array, at, [2]int{})
	want(t, "SampleOf", n, e, 2, api.OK)
}

// TestP4_2Sides has another mode on the way back: the firing element's way is Out, the receiving one's Back.
func TestP4_2Sides(t *testing.T) {
	a, at := two().Array, api.Spot{X: 20, Z: 400}
	for _, pair := range allPairs(a) {
		out, _ := ray.LeastTime(a.Out, a.Elements[pair[0]], at)
		back, _ := ray.LeastTime(a.Back, a.Elements[pair[1]], at)
		n, e := bench.EchoAt(a, at, pair)
		want(t, "EchoAt", n, e, (out.Lo+out.Hi)/2+(back.Lo+back.Hi)/2, api.OK)
		r, e := bench.EchoRange(a, at, pair)
		want(t, "EchoRange", r, e, api.Range{Lo: out.Lo + back.Lo, Hi: out.Hi + back.Hi}, api.OK)
	}
	d := newDice(1)
	for range 500 {
		s := d.specimen()
		at := d.place(s.Array.Out.Thick)
		for _, pair := range allPairs(s.Array) {
			n, e := bench.EchoAt(s.Array, at, pair)
			want(t, "EchoAt", n, e, rightEcho(s.Array, at, pair), api.OK)
			n, e = bench.SampleOf(s.Array, at, pair)
			want(t, "SampleOf", n, e, rightSample(s.Array, at, pair), api.OK)
			x := api.RayEcho{Out: s.Array.Out, Back: s.Array.Back, From: s.Array.Elements[pair[0]], At: at, To: s.Array.Elements[pair[1]]}
			right, _ := ray.EchoTime(x)
			r, e := bench.EchoRange(s.Array, at, pair)
			want(t, "EchoRange", r, e, right, api.OK)
		}
	}
}

// TestP4_2SampleOf rounds halves up, also ahead of the trace and behind it.
func TestP4_2SampleOf(t *testing.T) {
	for _, x := range []struct{ first, step, right int }{
		{3999980, 50000, 0}, {3999981, 2, 0}, {3999982, 2, -1}, {3999983, 2, -1}, {3999979, 2, 1}, {3999978, 4, 1}, {3999977, 4, 1}, {3999982, 4, 0}, {3999983, 4, -1},
		{4024980, 50000, 0}, {4024981, 50000, -1}, {4050000, 50000, -1}, {3974980, 50000, 1}, {3974981, 50000, 0},
		{0, 1, 3999980}, {0, api.MaxStep, 0}, {api.MaxTime, 1, 3999980 - api.MaxTime}, {api.MaxTime, api.MaxStep, -10000},
	} {
		a := one().Array
		a.Times = api.Sampling{First: x.first, Step: x.step}
		n, e := bench.SampleOf(a, api.Spot{Z: 400}, [2]int{})
		want(t, "SampleOf", n, e, x.right, api.OK)
	}
	slow := api.RayMode{Wedge: 500, Metal: 500, Skips: 4, Thick: 20000}
	a := api.BenchArray{Elements: []api.Spot{{X: -100000, Z: -100000}}, Out: slow, Back: slow, Times: api.Sampling{Step: 1}}
	far := api.Spot{X: 100000, Z: 19999}
	n, e := bench.SampleOf(a, far, [2]int{})
	want(t, "SampleOf of the farthest place", n, e, rightEcho(a, far, [2]int{}), api.OK)
}

// TestP4_2EchoErrors looks at the errors of the array, of the place, of the pair, and at their order.
func TestP4_2EchoErrors(t *testing.T) {
	wrong := func(what string, right api.Errno, a api.BenchArray, at api.Spot, pair [2]int) {
		t.Helper()
		n, e := bench.EchoAt(a, at, pair)
		want(t, "EchoAt with "+what, n, e, 0, right)
		r, e := bench.EchoRange(a, at, pair)
		want(t, "EchoRange with "+what, r, e, api.Range{}, right)
		n, e = bench.SampleOf(a, at, pair)
		want(t, "SampleOf with "+what, n, e, 0, right)
	}
	at := api.Spot{Z: 400}
	for _, x := range wrongArrays() {
		wrong("a wrong array", x.right, x.s.Array, at, [2]int{})
		wrong("a wrong array, place and pair", x.right, x.s.Array, api.Spot{X: 100001}, [2]int{-1, 5})
	}
	for _, x := range wrongPlaces() {
		wrong("a wrong place", x.right, two().Array, x.at, [2]int{1, 0})
		wrong("a wrong place and pair", x.right, two().Array, x.at, [2]int{2, 0})
	}
	for _, pair := range wrongPairs() {
		wrong("a wrong pair", api.ErrMissing, two().Array, at, pair)
	}
	for _, z := range []int{1, 999} {
		_, e := bench.EchoAt(two().Array, api.Spot{X: -100000, Z: z}, [2]int{1, 1})
		wantError(t, "EchoAt of a place at a wall", e, api.OK)
	}
}

func TestP4_2Seen(t *testing.T) {
	at, all := api.Spot{Z: 400}, [][2]int{{0, 0}}
	for _, x := range []struct {
		first  int
		length int
		right  [][2]int
	}{
		{3900000, 2, all}, {4050000, 2, nil}, {4024980, 2, all}, {4024981, 2, nil},
		{3999980 - 62*50000, 2, all}, {3999980 - 63*50000, 2, nil}, {3999980 - 63*50000, 1, all}, {3999980 - 64*50000, 1, nil},
		{3999980 - 48*50000, 16, all}, {3999980 - 49*50000, 16, nil}, {3999980 - 48*50000 - 25000, 16, nil}, {3999980 - 48*50000 - 24999, 16, all},
		{0, 1, nil}, {api.MaxTime, 1, nil},
	} {
		s := one()
		s.Array.Times.First, s.Pulse = x.first, make([]int, x.length)
		l, e := bench.Seen(s, at)
		want(t, "Seen", l, e, x.right, api.OK)
		s.Flaws = nil
		l, e = bench.Seen(s, at)
		want(t, "Seen without flaws", l, e, x.right, api.OK)
	}
	l, e := bench.Seen(two(), at)
	want(t, "Seen by two", l, e, [][2]int{{0, 0}, {0, 1}, {1, 0}, {1, 1}}, api.OK)
}

func TestP4_2SeenDefinition(t *testing.T) {
	d := newDice(2)
	some := 0
	for range 500 {
		s := d.specimen()
		at := d.place(s.Array.Out.Thick)
		var right [][2]int
		for _, pair := range allPairs(s.Array) {
			inside := true
			for n := range s.Pulse {
				k := rightSample(s.Array, at, pair) + n
				inside = inside && k >= 0 && k <= 63
			}
			if inside {
				right = append(right, pair)
			}
		}
		if len(right) > 0 && len(right) < len(allPairs(s.Array)) {
			some++
		}
		l, e := bench.Seen(s, at)
		want(t, "Seen", l, e, right, api.OK)
	}
	if some == 0 {
		t.Error("no place is seen by some of the pairs")
	}
}

func TestP4_2SeenErrors(t *testing.T) {
	for _, x := range wrongSpecimens() {
		l, e := bench.Seen(x.s, api.Spot{Z: 400})
		want(t, "Seen of a wrong specimen", l, e, nil, x.right)
		l, e = bench.Seen(x.s, api.Spot{X: 100001})
		want(t, "Seen of a wrong specimen and place", l, e, nil, x.right)
	}
	for _, x := range wrongPlaces() {
		l, e := bench.Seen(two(), x.at)
		want(t, "Seen of a wrong place", l, e, nil, x.right)
	}
}
