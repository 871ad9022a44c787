package cover_test

import (
	"math/big"
	"testing"

	"couplant/api"
	"couplant/cover"
)

func TestP7_2CheckSetup(t *testing.T) {
	far := api.CoverSetup{Name: "Z", At: 20000, Side: -1, Legs: 2, Least: frac(99, 100), Most: frac(100, 1), Tilt: frac(0, 1)}
	for _, s := range []api.CoverSetup{direct(), skip(), far, {Name: "Z", At: -20000, Side: 1, Legs: 1, Least: frac(1, 3), Most: frac(1, 3), Tilt: frac(1, 100)}, {Name: "Z", Side: 1, Legs: 1, Least: frac(33, 100), Most: frac(1, 3), Tilt: frac(100, 99)}} {
		want(t, "CheckSetup", s, cover.CheckSetup(s), s, api.OK)
	}
	for _, x := range wrongSetups() {
		want(t, "CheckSetup", x.s, cover.CheckSetup(x.s), x.s, x.right)
	}
}

// wrongAsk is a joint and an ask with their error.
type wrongAsk struct {
	j     api.CoverJoint
	x     api.CoverAsk
	right api.Errno
}

func wrongAsks() []wrongAsk {
	var l []wrongAsk
	for _, x := range wrongJoints() {
		l = append(l, wrongAsk{x.j, api.CoverAsk{Face: -1}, x.right})
	}
	for _, n := range wrongFaces() {
		l = append(l, wrongAsk{slant(), api.CoverAsk{Face: n}, api.ErrMissing}, wrongAsk{slant(), api.CoverAsk{Face: n, Setup: direct()}, api.ErrMissing})
	}
	l = append(l, wrongAsk{api.CoverJoint{Name: "v", Thick: 1}, api.CoverAsk{Setup: direct()}, api.ErrMissing})
	for _, x := range wrongSetups() {
		l = append(l, wrongAsk{slant(), api.CoverAsk{Setup: x.s}, x.right})
	}
	return l
}

// changed is a set-up of which something is changed.
func changed(s api.CoverSetup, change func(s *api.CoverSetup)) api.CoverSetup {
	change(&s)
	return s
}

func TestP7_2PartOf(t *testing.T) {
	tilted := func(s api.CoverSetup, num, den int) api.CoverSetup {
		return changed(s, func(s *api.CoverSetup) { s.Tilt = frac(num, den) })
	}
	for _, x := range []struct {
		s     api.CoverSetup
		right api.CoverPart
		e     api.Errno
	}{
		{direct(), part(0, 1, 1, 2), api.OK}, {tilted(direct(), 1, 4), part(0, 1, 1, 4), api.OK}, {tilted(direct(), 0, 1), part(0, 1, 0, 1), api.OK}, {tilted(direct(), 99, 100), part(0, 1, 1, 2), api.OK}, {tilted(direct(), 49, 100), part(0, 1, 49, 100), api.OK},
		{changed(direct(), func(s *api.CoverSetup) { s.Legs, s.Tilt = 2, frac(1, 4) }), api.CoverPart{}, api.ErrNone},
		{changed(direct(), func(s *api.CoverSetup) { s.Legs, s.Tilt, s.Most = 2, frac(100, 1), frac(100, 1) }), api.CoverPart{}, api.ErrNone},
		{tilted(skip(), 1, 1), part(0, 1, 0, 1), api.OK}, {tilted(skip(), 2, 1), part(0, 1, 1, 2), api.OK}, {skip(), part(0, 1, 1, 1), api.OK}, {tilted(skip(), 99, 100), api.CoverPart{}, api.ErrNone}, {tilted(skip(), 100, 1), part(0, 1, 1, 1), api.OK},
		{changed(skip(), func(s *api.CoverSetup) { s.Side = -1 }), part(0, 1, 0, 1), api.OK},
		{changed(direct(), func(s *api.CoverSetup) { s.Side = -1 }), api.CoverPart{}, api.ErrNone},
		{changed(direct(), func(s *api.CoverSetup) { s.Least = frac(2, 1) }), part(1, 3, 1, 2), api.OK},
		{changed(direct(), func(s *api.CoverSetup) { s.Least = frac(3, 1) }), part(1, 2, 1, 2), api.OK},
		{changed(direct(), func(s *api.CoverSetup) { s.Most = frac(1, 2) }), api.CoverPart{}, api.ErrNone},
	} {
		p, e := cover.PartOf(slant(), api.CoverAsk{Setup: x.s})
		want(t, "PartOf of "+shown(x.s), p, e, x.right, x.e)
	}
	// A face on the surface is met behind the back wall alone, one on the back wall both ways.
	walls := api.CoverJoint{Name: "walls", Thick: 1000, Faces: []api.CoverFace{face(0, 0, 0, 1000, 0), face(1, 0, 1000, 1000, 1000)}}
	wide := api.CoverSetup{Name: "a", At: 0, Side: 1, Legs: 1, Least: frac(0, 1), Most: frac(100, 1), Tilt: frac(100, 1)}
	for _, x := range []struct {
		n, at, legs int
		right       api.CoverPart
		e           api.Errno
	}{
		{0, 0, 1, api.CoverPart{}, api.ErrNone}, {0, -1, 1, api.CoverPart{}, api.ErrNone}, {0, 500, 1, api.CoverPart{}, api.ErrNone},
		{0, 0, 2, part(0, 1, 1, 1), api.OK}, {0, 500, 2, part(1, 2, 1, 1), api.OK}, {0, 1000, 2, part(1, 1, 1, 1), api.OK}, {0, 1001, 2, api.CoverPart{}, api.ErrNone},
		{1, 0, 1, part(0, 1, 1, 1), api.OK}, {1, 0, 2, part(0, 1, 1, 1), api.OK}, {1, 333, 1, part(333, 1000, 1, 1), api.OK}, {1, 1000, 2, part(1, 1, 1, 1), api.OK},
	} {
		s := wide
		s.At, s.Legs = x.at, x.legs
		p, e := cover.PartOf(walls, api.CoverAsk{Face: x.n, Setup: s})
		want(t, "PartOf of a wall", p, e, x.right, x.e)
	}
	for _, x := range wrongAsks() {
		p, e := cover.PartOf(x.j, x.x)
		want(t, "PartOf of a wrong ask", p, e, api.CoverPart{}, x.right)
	}
}

// TestP7_2Parts holds parts against the definition, turn by turn.
func TestP7_2Parts(t *testing.T) {
	d := newDice(3)
	wholes, points, some, none := 0, 0, 0, 0
	for range 20000 {
		j := d.joint(2)
		x := api.CoverAsk{Face: d.IntN(len(j.Faces)), Setup: d.setup(j, 0)}
		right, isSome := rightPart(j, x.Face, x.Setup)
		p, e := cover.PartOf(j, x)
		what := "PartOf of " + shown(j) + " and " + shown(x)
		if !isSome {
			want(t, what, p, e, api.CoverPart{}, api.ErrNone)
			none++
			continue
		}
		ends := api.CoverPart{From: pointOf(right[0]), To: pointOf(right[1])}
		want(t, what, p, e, ends, api.OK)
		switch ends {
		case part(0, 1, 1, 1):
			wholes++
		case api.CoverPart{From: ends.From, To: ends.From}:
			points++
		default:
			some++
		}
	}
	if min(wholes, points, some, none) < 200 {
		t.Error("too few parts of a kind:", wholes, points, some, none)
	}
}

func TestP7_2IsMet(t *testing.T) {
	for _, x := range []struct {
		p     api.CoverPoint
		right bool
	}{{point(1, 2), true}, {point(501, 1000), false}, {point(0, 1), true}, {point(1, 1), false}, {point(499999999999, 1000000000000), true}, {point(500000000001, 1000000000000), false}} {
		is, e := cover.IsMet(slant(), api.CoverAsk{Setup: direct()}, x.p)
		want(t, "IsMet", is, e, x.right, api.OK)
	}
	for _, x := range wrongAsks() {
		is, e := cover.IsMet(x.j, x.x, api.CoverPoint{})
		want(t, "IsMet of a wrong ask", is, e, false, x.right)
	}
	for _, x := range wrongPoints() {
		is, e := cover.IsMet(slant(), api.CoverAsk{Setup: direct()}, x.p)
		want(t, "IsMet of "+shown(x.p), is, e, false, x.right)
	}
}

// near is points at, and as near as may be to, a share from 0 to 1.
func near(x *big.Rat) []api.CoverPoint {
	l := []api.CoverPoint{pointOf(x)}
	num, den := l[0].Num, l[0].Den
	more := 1000000000000 / den
	if num > 0 {
		l = append(l, point(num*more-1, den*more))
	}
	if num < den {
		l = append(l, point(num*more+1, den*more))
	}
	return l
}

// TestP7_2Met holds points at the turns, beside them and elsewhere against the definition.
func TestP7_2Met(t *testing.T) {
	d := newDice(4)
	counts := map[bool]int{}
	for range 5000 {
		j := d.joint(2)
		x := api.CoverAsk{Face: d.IntN(len(j.Faces)), Setup: d.setup(j, 0)}
		var points []api.CoverPoint
		for _, turn := range turns(j, x.Face, x.Setup) {
			points = append(points, near(turn)...)
		}
		points = append(points, point(d.from(0, 1000), 1000), point(d.from(0, 999999999989), 999999999989))
		for _, p := range points {
			is, e := cover.IsMet(j, x, p)
			want(t, "IsMet of "+shown(j)+", "+shown(x)+" and "+shown(p), is, e, isMet(j, x.Face, x.Setup, shareOf(p)), api.OK)
			counts[is]++
		}
	}
	if counts[true] < 2000 || counts[false] < 2000 {
		t.Error("too few points are met, or not:", counts)
	}
}

func TestP7_2SurePart(t *testing.T) {
	for _, x := range []struct {
		s     api.CoverSetup
		shift int
		right api.CoverPart
		e     api.Errno
	}{
		{direct(), 200, part(0, 1, 9, 20), api.OK}, {direct(), 0, part(0, 1, 1, 2), api.OK}, {direct(), 1, part(0, 1, 1999, 4000), api.OK},
		{direct(), -1, api.CoverPart{}, api.ErrRange}, {direct(), 5001, api.CoverPart{}, api.ErrRange}, {direct(), smallest, api.CoverPart{}, api.ErrRange}, {direct(), greatest, api.CoverPart{}, api.ErrRange},
		{changed(direct(), func(s *api.CoverSetup) { s.At = -19000 }), 1000, api.CoverPart{}, api.ErrNone}, {changed(direct(), func(s *api.CoverSetup) { s.At = -19000 }), 1001, api.CoverPart{}, api.ErrRange},
		{changed(direct(), func(s *api.CoverSetup) { s.At = 15001 }), 5000, api.CoverPart{}, api.ErrRange}, {changed(direct(), func(s *api.CoverSetup) { s.At = 15000 }), 5000, api.CoverPart{}, api.ErrNone},
		{changed(direct(), func(s *api.CoverSetup) { s.At = 20000 }), 0, api.CoverPart{}, api.ErrNone}, {changed(direct(), func(s *api.CoverSetup) { s.At = 20000 }), 1, api.CoverPart{}, api.ErrRange},
	} {
		p, e := cover.SurePart(slant(), api.CoverAsk{Setup: x.s}, x.shift)
		want(t, "SurePart", p, e, x.right, x.e)
	}
	for _, x := range wrongAsks() {
		p, e := cover.SurePart(x.j, x.x, -1)
		want(t, "SurePart of a wrong ask", p, e, api.CoverPart{}, x.right)
	}
	// On both sides of an upright face the same part is met, but not from the same side.
	upright := api.CoverJoint{Name: "u", Thick: 1000, Faces: []api.CoverFace{face(0, 0, 1000, 0, 0)}}
	straight := api.CoverSetup{Name: "a", At: 0, Side: 1, Legs: 2, Least: frac(0, 1), Most: frac(100, 1), Tilt: frac(100, 1)}
	p, e := cover.SurePart(upright, api.CoverAsk{Setup: straight}, 100)
	want(t, "SurePart on both sides", p, e, api.CoverPart{}, api.ErrNone)
}

// TestP7_2SureParts holds sure parts against the parts of both set-ups.
func TestP7_2SureParts(t *testing.T) {
	d := newDice(5)
	some, none, opposite := 0, 0, 0
	for range 20000 {
		j := d.joint(2)
		x := api.CoverAsk{Face: d.IntN(len(j.Faces)), Setup: d.setup(j, 0)}
		if d.from(0, 2) > 0 {
			x.Setup.Least, x.Setup.Most, x.Setup.Tilt = frac(0, 1), frac(100, 1), frac(100, 1)
		}
		shift := min(d.from(0, d.one(0, 1, j.Thick/2, 5000)), 5000, 20000-x.Setup.At, 20000+x.Setup.At)
		less, more := x.Setup, x.Setup
		less.At -= shift
		more.At += shift
		a, isA := rightPart(j, x.Face, less)
		b, isB := rightPart(j, x.Face, more)
		right, e := api.CoverPart{}, api.ErrNone
		if isA && isB {
			from, to := a[0], a[1]
			if b[0].Cmp(from) > 0 {
				from = b[0]
			}
			if b[1].Cmp(to) < 0 {
				to = b[1]
			}
			switch {
			case from.Cmp(to) > 0:
			case signOf(j, x.Face, less) != signOf(j, x.Face, more):
				opposite++
			default:
				right, e = api.CoverPart{From: pointOf(from), To: pointOf(to)}, api.OK
			}
		}
		p, f := cover.SurePart(j, x, shift)
		want(t, "SurePart of "+shown(j)+" and "+shown(x), p, f, right, e)
		if e == api.OK {
			some++
		} else {
			none++
		}
	}
	if min(some, none, opposite) < 20 {
		t.Error("too few sure parts of a kind:", some, none, opposite)
	}
}
