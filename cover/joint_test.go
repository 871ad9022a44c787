package cover_test

import (
	"testing"

	"couplant/api"
	"couplant/cover"
)

func TestP7_1CheckJoint(t *testing.T) {
	far := api.CoverJoint{Name: "Far-20000---", Thick: 20000, Zone: 20000, Faces: []api.CoverFace{face(0, -20000, 0, 20000, 20000), face(1, 20000, 20000, -20000, 0), face(2, 20000, 0, 20000, 1)}}
	for _, j := range []api.CoverJoint{slant(), ruler(12), far, {Name: "v", Thick: 1}, {Name: "v", Thick: 1, Faces: []api.CoverFace{face(0, 0, 0, 0, 1), face(1, 0, 0, 1, 0), face(2, 0, 0, 0, 1)}}} {
		n, e := cover.CheckJoint(j)
		want(t, "CheckJoint", n, e, 0, api.OK)
	}
	for _, x := range wrongJoints() {
		n, e := cover.CheckJoint(x.j)
		want(t, "CheckJoint of "+shown(x.j), n, e, x.n, x.right)
	}
}

// bevel is the bevelled joint of the chapter's sixth example.
func bevel() api.CoverBevel {
	return api.CoverBevel{Name: "w", Thick: 1000, Zone: 7, HalfGap: 100, Land: 200, Tangent: frac(1, 2)}
}

func TestP7_1Bevelled(t *testing.T) {
	named := func(names ...string) []api.CoverFace {
		var l []api.CoverFace
		for _, name := range names {
			l = append(l, api.CoverFace{Name: name})
		}
		return l
	}
	for _, x := range []struct {
		change func(b *api.CoverBevel)
		faces  [][4]int
	}{
		{func(b *api.CoverBevel) {}, [][4]int{{-100, 1000, -100, 800}, {-100, 800, -500, 0}, {100, 1000, 100, 800}, {100, 800, 500, 0}}},
		{func(b *api.CoverBevel) { b.Tangent = frac(1, 3) }, [][4]int{{-100, 1000, -100, 800}, {-100, 800, -366, 0}, {100, 1000, 100, 800}, {100, 800, 366, 0}}},
		{func(b *api.CoverBevel) { b.Tangent = frac(0, 1) }, [][4]int{{-100, 1000, -100, 800}, {-100, 800, -100, 0}, {100, 1000, 100, 800}, {100, 800, 100, 0}}},
		{func(b *api.CoverBevel) { b.HalfGap, b.Land, b.Tangent = 0, 999, frac(100, 99) }, [][4]int{{0, 1000, 0, 1}, {0, 1, -1, 0}, {0, 1000, 0, 1}, {0, 1, 1, 0}}},
		{func(b *api.CoverBevel) { b.HalfGap, b.Land, b.Tangent = 0, 999, frac(99, 100) }, [][4]int{{0, 1000, 0, 1}, {0, 1, 0, 0}, {0, 1000, 0, 1}, {0, 1, 0, 0}}},
		{func(b *api.CoverBevel) { b.HalfGap, b.Land, b.Tangent = 12000, 200, frac(10, 1) }, [][4]int{{-12000, 1000, -12000, 800}, {-12000, 800, -20000, 0}, {12000, 1000, 12000, 800}, {12000, 800, 20000, 0}}},
		{func(b *api.CoverBevel) { b.HalfGap, b.Land, b.Tangent = 20000, 999, frac(99, 100) }, [][4]int{{-20000, 1000, -20000, 1}, {-20000, 1, -20000, 0}, {20000, 1000, 20000, 1}, {20000, 1, 20000, 0}}},
	} {
		b := bevel()
		x.change(&b)
		right := api.CoverJoint{Name: "w", Thick: 1000, Zone: 7, Faces: named("l-land", "l-bevel", "r-land", "r-bevel")}
		for n, f := range x.faces {
			right.Faces[n].From, right.Faces[n].To = api.Spot{X: f[0], Z: f[1]}, api.Spot{X: f[2], Z: f[3]}
		}
		j, e := cover.Bevelled(b)
		want(t, "Bevelled", j, e, right, api.OK)
	}
	b := bevel()
	b.Land, b.HalfGap = 0, 19500
	j, e := cover.Bevelled(b)
	want(t, "Bevelled without lands", j, e, api.CoverJoint{Name: "w", Thick: 1000, Zone: 7, Faces: []api.CoverFace{
		{Name: "l-bevel", From: api.Spot{X: -19500, Z: 1000}, To: api.Spot{X: -20000}},
		{Name: "r-bevel", From: api.Spot{X: 19500, Z: 1000}, To: api.Spot{X: 20000}},
	}}, api.OK)
	b.Land, b.HalfGap, b.Tangent = 1000, 20000, frac(100, 1)
	j, e = cover.Bevelled(b)
	want(t, "Bevelled without bevels", j, e, api.CoverJoint{Name: "w", Thick: 1000, Zone: 7, Faces: []api.CoverFace{
		{Name: "l-land", From: api.Spot{X: -20000, Z: 1000}, To: api.Spot{X: -20000}},
		{Name: "r-land", From: api.Spot{X: 20000, Z: 1000}, To: api.Spot{X: 20000}},
	}}, api.OK)
}

func TestP7_1BevelledErrors(t *testing.T) {
	check := func(right api.Errno, change func(b *api.CoverBevel)) {
		t.Helper()
		b := bevel()
		change(&b)
		j, e := cover.Bevelled(b)
		want(t, "Bevelled of "+shown(b), j, e, api.CoverJoint{}, right)
	}
	check(api.ErrName, func(b *api.CoverBevel) { *b = api.CoverBevel{} })
	check(api.ErrName, func(b *api.CoverBevel) { b.Name = "5w" })
	for _, n := range []int{smallest, -1, 20001, greatest} {
		check(api.ErrRange, func(b *api.CoverBevel) { b.Thick, b.Tangent = n, api.Frac{} })
		check(api.ErrRange, func(b *api.CoverBevel) { b.Zone, b.Tangent = n, api.Frac{} })
		check(api.ErrRange, func(b *api.CoverBevel) { b.HalfGap, b.Tangent = n, api.Frac{} })
		check(api.ErrRange, func(b *api.CoverBevel) { b.Land, b.Tangent = n, api.Frac{} })
	}
	check(api.ErrRange, func(b *api.CoverBevel) { b.Thick, b.Land = 0, 0 })
	check(api.ErrRange, func(b *api.CoverBevel) { b.Land, b.Tangent = 1001, api.Frac{} })
	for _, f := range wrongForms() {
		check(api.ErrForm, func(b *api.CoverBevel) { b.Tangent = f })
	}
	for _, f := range []api.Frac{frac(-1, 2), frac(101, 1), frac(101, 100), frac(1, 101), {Num: smallest, Den: 1}, {Num: greatest, Den: 1}, {Num: 1, Den: greatest}} {
		check(api.ErrRange, func(b *api.CoverBevel) { b.Tangent, b.HalfGap = f, 20000 })
	}
	check(api.ErrLarge, func(b *api.CoverBevel) { b.HalfGap, b.Tangent = 12001, frac(10, 1) })
	check(api.ErrLarge, func(b *api.CoverBevel) { b.HalfGap, b.Land, b.Tangent = 20000, 999, frac(1, 1) })
	check(api.ErrLarge, func(b *api.CoverBevel) { b.Thick, b.HalfGap, b.Land, b.Tangent = 20000, 0, 0, frac(100, 1) })
}

func TestP7_1SpotAt(t *testing.T) {
	w, e := cover.Bevelled(bevel())
	want(t, "Bevelled", len(w.Faces), e, 4, api.OK)
	for _, x := range []struct {
		j     api.CoverJoint
		n     int
		p     api.CoverPoint
		right api.Spot
	}{
		{w, 1, point(1, 3), api.Spot{X: -233, Z: 533}}, {w, 1, point(0, 1), api.Spot{X: -100, Z: 800}}, {w, 1, point(1, 1), api.Spot{X: -500}},
		{w, 1, point(1, 800), api.Spot{X: -100, Z: 799}}, {w, 3, point(1, 800), api.Spot{X: 101, Z: 799}}, {w, 3, point(3, 1600), api.Spot{X: 101, Z: 799}},
		{w, 1, point(1, 1600), api.Spot{X: -100, Z: 800}}, {w, 1, point(3, 800), api.Spot{X: -101, Z: 797}},
		{slant(), 0, point(1, 1000000000000), api.Spot{X: 0, Z: 1000}}, {slant(), 0, point(999999999999, 1000000000000), api.Spot{X: 1000, Z: 0}},
		{slant(), 0, point(1, 2000), api.Spot{X: 1, Z: 1000}},
	} {
		p, e := cover.SpotAt(x.j, x.n, x.p)
		want(t, "SpotAt of "+shown(x.p), p, e, x.right, api.OK)
	}
	d := newDice(1)
	for range 2000 {
		j := d.joint(3)
		n := d.IntN(len(j.Faces))
		den := d.one(1, 2, d.from(1, 100), d.from(1, 1000000000000), 1000000000000)
		p := point(d.from(0, den), den)
		f := j.Faces[n]
		right := api.Spot{
			X: rounded(sum(whole(f.From.X), product(shareOf(p), whole(f.To.X-f.From.X)))),
			Z: rounded(sum(whole(f.From.Z), product(shareOf(p), whole(f.To.Z-f.From.Z)))),
		}
		q, e := cover.SpotAt(j, n, p)
		want(t, "SpotAt", q, e, right, api.OK)
	}
	for _, x := range wrongJoints() {
		q, e := cover.SpotAt(x.j, -1, api.CoverPoint{})
		want(t, "SpotAt of a wrong joint", q, e, api.Spot{}, x.right)
	}
	for _, n := range wrongFaces() {
		q, e := cover.SpotAt(slant(), n, api.CoverPoint{})
		want(t, "SpotAt of no face", q, e, api.Spot{}, api.ErrMissing)
	}
	for _, x := range wrongPoints() {
		q, e := cover.SpotAt(slant(), 0, x.p)
		want(t, "SpotAt of "+shown(x.p), q, e, api.Spot{}, x.right)
	}
}

// isNear tells whether the square of the distance of a place from a face is at most a number.
func isNear(most int, p api.Spot, f api.CoverFace) bool {
	wx, wz := whole(f.To.X-f.From.X), whole(f.To.Z-f.From.Z)
	dx, dz := whole(p.X-f.From.X), whole(p.Z-f.From.Z)
	t := share(sum(product(wx, dx), product(wz, dz)), sum(product(wx, wx), product(wz, wz)))
	if t.Sign() < 0 {
		t = whole(0)
	}
	if t.Cmp(whole(1)) > 0 {
		t = whole(1)
	}
	dx, dz = difference(dx, product(t, wx)), difference(dz, product(t, wz))
	return sum(product(dx, dx), product(dz, dz)).Cmp(whole(most)) <= 0
}

func TestP7_1InZone(t *testing.T) {
	w, _ := cover.Bevelled(bevel())
	w.Zone = 10
	three := api.CoverJoint{Name: "v", Thick: 40, Zone: 5, Faces: []api.CoverFace{face(0, 0, 0, 40, 30)}}
	for _, x := range []struct {
		j     api.CoverJoint
		p     api.Spot
		right bool
	}{
		{w, api.Spot{X: 110, Z: 900}, true}, {w, api.Spot{X: 111, Z: 900}, false}, {w, api.Spot{X: 500}, true}, {w, api.Spot{X: 500, Z: -1}, false},
		{w, api.Spot{X: 100, Z: 1000}, true}, {w, api.Spot{X: 100, Z: 1001}, false}, {w, api.Spot{X: -90, Z: 900}, true}, {w, api.Spot{X: -89, Z: 900}, false},
		// A step across the face (3, -4) is as long as the zone is wide.
		{three, api.Spot{X: 23, Z: 11}, true}, {three, api.Spot{X: 17, Z: 19}, true}, {three, api.Spot{X: 24, Z: 11}, false}, {three, api.Spot{X: 16, Z: 19}, false},
		{three, api.Spot{X: 45, Z: 30}, true}, {three, api.Spot{X: 46, Z: 30}, false}, {three, api.Spot{X: 44, Z: 33}, true}, {three, api.Spot{X: 44, Z: 34}, false}, {three, api.Spot{X: 40, Z: 36}, false},
		{three, api.Spot{X: -5, Z: 0}, true}, {three, api.Spot{X: -3, Z: 4}, true}, {three, api.Spot{X: -4, Z: 4}, false}, {three, api.Spot{X: -3, Z: -4}, false},
		{api.CoverJoint{Name: "v", Thick: 40, Zone: 20000}, api.Spot{X: 0, Z: 5}, false},
		{slant(), api.Spot{X: 300, Z: 700}, true}, {slant(), api.Spot{X: 300, Z: 701}, false}, {slant(), api.Spot{X: 1000}, true}, {slant(), api.Spot{X: 1001}, false}, {slant(), api.Spot{Z: 1000}, true},
		{api.CoverJoint{Name: "v", Thick: 20000, Zone: 20000, Faces: []api.CoverFace{face(0, -20000, 0, 20000, 1)}}, api.Spot{X: 100000, Z: 20000}, false},
		{api.CoverJoint{Name: "v", Thick: 20000, Zone: 20000, Faces: []api.CoverFace{face(0, -20000, 0, -16667, 20000)}}, api.Spot{X: 100000, Z: 20}, false},
	} {
		is, e := cover.InZone(x.j, x.p)
		want(t, "InZone of "+shown(x.p), is, e, x.right, api.OK)
	}
	d := newDice(2)
	counts := map[bool]int{}
	for range 5000 {
		j := d.joint(2)
		f := j.Faces[0]
		p := api.Spot{X: d.one(f.From.X, f.To.X, d.from(f.From.X-9, f.From.X+9), d.from(-30000, 30000), d.from(-100000, 100000)), Z: d.from(-1, j.Thick+1)}
		right := false
		for _, f := range j.Faces {
			right = right || 0 <= p.Z && p.Z <= j.Thick && isNear(j.Zone*j.Zone, p, f)
		}
		is, e := cover.InZone(j, p)
		want(t, "InZone of "+shown(p)+" and "+shown(j), is, e, right, api.OK)
		counts[is]++
	}
	if counts[true] < 500 || counts[false] < 500 {
		t.Error("too few places in the zone, or outside:", counts)
	}
	for _, x := range wrongJoints() {
		is, e := cover.InZone(x.j, api.Spot{X: 100001})
		want(t, "InZone of a wrong joint", is, e, false, x.right)
	}
	for _, n := range []int{smallest, -100001, 100001, greatest} {
		is, e := cover.InZone(slant(), api.Spot{X: n})
		want(t, "InZone far across", is, e, false, api.ErrRange)
		is, e = cover.InZone(slant(), api.Spot{Z: n})
		want(t, "InZone far down", is, e, false, api.ErrRange)
	}
	for _, p := range []api.Spot{{X: 100000, Z: -100000}, {X: -100000, Z: 100000}} {
		is, e := cover.InZone(slant(), p)
		want(t, "InZone of the farthest places", is, e, false, api.OK)
	}
}
