package cover_test

import (
	"slices"
	"testing"

	"couplant/api"
	"couplant/cover"
)

func TestP7_3FirstGap(t *testing.T) {
	tenths := func(lo, hi int) api.CoverPart { return part(lo, 10, hi, 10) }
	for _, x := range []struct {
		l     []api.CoverSetup
		right api.CoverPart
		e     api.Errno
	}{
		{nil, tenths(0, 10), api.OK}, {hits(0, 10), api.CoverPart{}, api.ErrNone}, {hits(0, 5), tenths(5, 10), api.OK}, {hits(5, 10), tenths(0, 5), api.OK},
		{hits(0, 5, 5, 10), api.CoverPart{}, api.ErrNone}, {hits(5, 10, 0, 5), api.CoverPart{}, api.ErrNone}, {hits(0, 4, 6, 10), tenths(4, 6), api.OK}, {hits(6, 10, 0, 4), tenths(4, 6), api.OK},
		{hits(0, 4, 2, 10), api.CoverPart{}, api.ErrNone}, {hits(0, 10, 2, 3), api.CoverPart{}, api.ErrNone}, {hits(0, 8, 2, 3), tenths(8, 10), api.OK}, {hits(0, 8, 2, 3, 9, 10), tenths(8, 9), api.OK},
		{hits(0, 0), tenths(0, 10), api.OK}, {hits(10, 10), tenths(0, 10), api.OK}, {hits(5, 5), tenths(0, 5), api.OK}, {hits(0, 0, 10, 10), tenths(0, 10), api.OK},
		{hits(0, 3, 5, 5), tenths(3, 5), api.OK}, {hits(0, 3, 5, 5, 3, 5), tenths(5, 10), api.OK}, {hits(0, 3, 5, 5, 3, 4), tenths(4, 5), api.OK}, {hits(0, 9, 10, 10), tenths(9, 10), api.OK},
		{hits(2, 3, 0, 1, 4, 10), tenths(1, 2), api.OK}, {hits(0, 2, 0, 4, 0, 3, 4, 4), tenths(4, 10), api.OK}, {hits(0, 100), api.CoverPart{}, api.ErrNone}, {hits(20, 30), tenths(0, 10), api.OK},
		{hits(0, 1, 1, 2, 2, 3, 3, 4, 4, 5, 5, 6, 6, 7, 7, 8, 8, 9, 9, 10, 5, 5, 0, 10), api.CoverPart{}, api.ErrNone},
	} {
		gap, e := cover.FirstGap(ruler(1), 0, x.l)
		want(t, "FirstGap of "+shown(x.l), gap, e, x.right, x.e)
	}
	gap, e := cover.FirstGap(ruler(3), 1, hits(0, 13, 17, 30))
	want(t, "FirstGap of another face", gap, e, part(3, 10, 7, 10), api.OK)
	gap, e = cover.FirstGap(ruler(3), 2, hits(0, 13, 17, 30))
	want(t, "FirstGap of a covered face", gap, e, api.CoverPart{}, api.ErrNone)
	gap, e = cover.FirstGap(slant(), 0, []api.CoverSetup{direct()})
	want(t, "FirstGap of the first example", gap, e, part(1, 2, 1, 1), api.OK)
	gap, e = cover.FirstGap(slant(), 0, []api.CoverSetup{direct(), skip()})
	want(t, "FirstGap of both", gap, e, api.CoverPart{}, api.ErrNone)
	for _, x := range wrongJoints() {
		gap, e := cover.FirstGap(x.j, -1, make([]api.CoverSetup, 13))
		want(t, "FirstGap of a wrong joint", gap, e, api.CoverPart{}, x.right)
	}
	for _, n := range wrongFaces() {
		gap, e := cover.FirstGap(slant(), n, make([]api.CoverSetup, 13))
		want(t, "FirstGap of no face", gap, e, api.CoverPart{}, api.ErrMissing)
	}
	for _, x := range wrongLists() {
		gap, e := cover.FirstGap(slant(), 0, x.l)
		want(t, "FirstGap of wrong set-ups", gap, e, api.CoverPart{}, x.right)
	}
}

// TestP7_3Gaps holds gaps against the definition.
func TestP7_3Gaps(t *testing.T) {
	d := newDice(6)
	counts := map[bool]int{}
	check := func(j api.CoverJoint, l []api.CoverSetup) {
		first := true
		n, gap, e := cover.CheckPlan(j, l)
		for m := range j.Faces {
			right, isGap := rightGap(j, m, l)
			if isGap && first {
				want(t, "the face of CheckPlan", n, e, m, api.ErrGap)
				want(t, "the gap of CheckPlan", gap, e, right, api.ErrGap)
				first = false
			}
			f := api.ErrNone
			if isGap {
				f = api.OK
			}
			found, g := cover.FirstGap(j, m, l)
			want(t, "FirstGap of "+shown(j)+" and "+shown(l), found, g, right, f)
			counts[isGap]++
		}
		if first {
			want(t, "the face of CheckPlan", n, e, 0, api.OK)
			want(t, "the gap of CheckPlan", gap, e, api.CoverPart{}, api.OK)
		}
	}
	for range 700 {
		j := d.joint(3)
		check(j, d.setups(j, 12))
		faces := d.from(1, 2)
		check(ruler(faces), d.hits(faces, 12))
	}
	if counts[true] < 500 || counts[false] < 500 {
		t.Error("too few gaps, or faces without:", counts)
	}
}

func TestP7_3CheckPlan(t *testing.T) {
	for _, x := range []struct {
		j   api.CoverJoint
		l   []api.CoverSetup
		n   int
		gap api.CoverPart
		e   api.Errno
	}{
		{ruler(0), nil, 0, api.CoverPart{}, api.OK}, {ruler(0), hits(0, 5), 0, api.CoverPart{}, api.OK}, {ruler(1), nil, 0, part(0, 1, 1, 1), api.ErrGap},
		{ruler(2), hits(0, 20), 0, api.CoverPart{}, api.OK}, {ruler(2), hits(0, 15), 1, part(1, 2, 1, 1), api.ErrGap}, {ruler(3), hits(0, 11, 13, 19), 1, part(1, 10, 3, 10), api.ErrGap},
		{ruler(2), hits(15, 20, 0, 7, 8, 15), 0, part(7, 10, 8, 10), api.ErrGap}, {ruler(12), hits(0, 100, 100, 120), 10, part(0, 1, 1, 1), api.ErrGap},
		{slant(), []api.CoverSetup{direct()}, 0, part(1, 2, 1, 1), api.ErrGap}, {slant(), []api.CoverSetup{skip()}, 0, api.CoverPart{}, api.OK},
	} {
		if len(x.l) == 2 && x.l[1].Most == frac(12, 1) {
			// The tilt is at most 100, but the set-up may stand elsewhere.
			x.l[1].At, x.l[1].Least, x.l[1].Most = 10000, frac(0, 1), frac(0, 1)
		}
		n, gap, e := cover.CheckPlan(x.j, x.l)
		want(t, "the face of CheckPlan", n, e, x.n, x.e)
		want(t, "the gap of CheckPlan", gap, e, x.gap, x.e)
	}
	for _, x := range wrongJoints() {
		n, gap, e := cover.CheckPlan(x.j, make([]api.CoverSetup, 13))
		want(t, "CheckPlan of a wrong joint", n, e, 0, x.right)
		want(t, "the gap of a wrong joint", gap, e, api.CoverPart{}, x.right)
	}
	for _, x := range wrongLists() {
		n, gap, e := cover.CheckPlan(slant(), x.l)
		want(t, "CheckPlan of wrong set-ups", n, e, 0, x.right)
		want(t, "the gap of wrong set-ups", gap, e, api.CoverPart{}, x.right)
	}
}

// checkFewest holds the result of Fewest against all choices, and the points against the definition.
func checkFewest(t *testing.T, j api.CoverJoint, n int, l []api.CoverSetup) (int, bool) {
	t.Helper()
	right, isCovered := leastChoice(j, l, n)
	numbers, points, e := cover.Fewest(j, n, l)
	if !isCovered {
		want(t, "Fewest of a gap", numbers, e, nil, api.ErrGap)
		want(t, "points of a gap", points, e, nil, api.ErrGap)
		return 0, false
	}
	what := "Fewest of " + shown(j) + " and " + shown(l)
	want(t, "how many: "+what, [2]int{len(numbers), len(points)}, e, [2]int{len(right), len(right)}, api.OK)
	want(t, "whether they ascend: "+what, slices.IsSorted(numbers) && len(slices.Compact(slices.Clone(numbers))) == len(numbers), e, true, api.OK)
	want(t, "whether they cover: "+what, doCover(j, n, l, numbers), e, true, api.OK)
	count, e := cover.CheckApart(j, api.CoverChoice{Face: n, Setups: l}, points)
	want(t, "CheckApart of "+shown(points)+": "+what, count, e, len(points), api.OK)
	want(t, "whether points are apart: "+what, areApart(j, n, l, points), e, true, api.OK)
	return len(right), true
}

// areApart tells whether no set-up meets two of the points, as the chapter defines it.
func areApart(j api.CoverJoint, n int, l []api.CoverSetup, points []api.CoverPoint) bool {
	for _, s := range l {
		count := 0
		for _, p := range points {
			if isMet(j, n, s, shareOf(p)) {
				count++
			}
		}
		if count > 1 {
			return false
		}
	}
	return true
}

func TestP7_4Fewest(t *testing.T) {
	for _, l := range [][]api.CoverSetup{
		hits(0, 10), hits(0, 5, 5, 10), hits(5, 10, 0, 5), hits(0, 5, 5, 10, 4, 6), hits(0, 6, 3, 8, 5, 10), hits(0, 10, 0, 5, 5, 10), hits(0, 2, 1, 5, 2, 6, 5, 10, 6, 9, 0, 0, 10, 10),
		hits(0, 1, 1, 2, 2, 3, 3, 4, 4, 5, 5, 6, 6, 7, 7, 8, 8, 9, 9, 10), hits(0, 1, 1, 2, 2, 3, 3, 4, 4, 5, 5, 6, 6, 7, 7, 8, 8, 9, 9, 10, 1, 1, 9, 9),
	} {
		_, isCovered := checkFewest(t, ruler(1), 0, l)
		want(t, "whether a ruler is covered", isCovered, api.OK, true, api.OK)
	}
	numbers, points, e := cover.Fewest(ruler(1), 0, hits(5, 10, 0, 5))
	want(t, "Fewest", numbers, e, []int{0, 1}, api.OK)
	want(t, "the points of Fewest", len(points), e, 2, api.OK)
	numbers, points, e = cover.Fewest(slant(), 0, []api.CoverSetup{direct(), skip()})
	want(t, "Fewest of the example", numbers, e, []int{1}, api.OK)
	want(t, "the points of Fewest", len(points), e, 1, api.OK)
	d := newDice(7)
	counts := map[int]int{}
	for range 600 {
		j, n := d.joint(1), 0
		l := d.setups(j, 7)
		if d.from(0, 2) > 0 {
			faces := d.from(1, 2)
			j, n, l = ruler(faces), d.IntN(faces), d.hits(faces, 8)
		}
		if count, isCovered := checkFewest(t, j, n, l); isCovered {
			counts[count]++
		}
	}
	if counts[1] < 20 || counts[2] < 20 || counts[3] < 10 {
		t.Error("too few faces that need so many set-ups:", counts)
	}
}

// TestP7_4Fine has set-ups that meet, or miss, each other by little, at places far away, so that points have great denominators.
func TestP7_4Fine(t *testing.T) {
	d := newDice(8)
	counts := map[int]int{}
	for range 300 {
		j := api.CoverJoint{Name: "fine", Thick: 20000, Faces: []api.CoverFace{face(0, d.from(-20000, -15000), d.from(15000, 20000), d.from(15000, 20000), d.from(15000, 20000))}}
		var l []api.CoverSetup
		for n := range 7 {
			s := d.setup(j, n)
			s.Legs = 1
			s.Tilt = frac(d.from(50, 100), d.from(80, 100))
			s.At = d.from(-8000, 8000)
			s.Least, s.Most = frac(0, 1), frac(d.from(50, 100), d.from(51, 100))
			l = append(l, s)
		}
		for n, side := range []int{1, -1} {
			l[n].At, l[n].Side, l[n].Most, l[n].Tilt = -20000*side, side, frac(d.from(80, 100), d.from(80, 100)), frac(100, 51)
		}
		count, _ := checkFewest(t, j, 0, l)
		counts[count]++
	}
	if counts[2] < 20 || counts[3] < 20 || counts[4] < 5 {
		t.Error("too few faces that need so many set-ups:", counts)
	}
}

func TestP7_4FewestErrors(t *testing.T) {
	check := func(what string, j api.CoverJoint, n int, l []api.CoverSetup, right api.Errno) {
		t.Helper()
		numbers, points, e := cover.Fewest(j, n, l)
		want(t, what, numbers, e, nil, right)
		want(t, what, points, e, nil, right)
	}
	for _, x := range wrongJoints() {
		check("Fewest of a wrong joint", x.j, -1, make([]api.CoverSetup, 13), x.right)
	}
	for _, n := range wrongFaces() {
		check("Fewest of no face", slant(), n, make([]api.CoverSetup, 13), api.ErrMissing)
	}
	for _, x := range wrongLists() {
		check("Fewest of wrong set-ups", slant(), 0, x.l, x.right)
	}
	check("Fewest of no set-ups", slant(), 0, nil, api.ErrGap)
	check("Fewest of a gap", slant(), 0, []api.CoverSetup{direct()}, api.ErrGap)
	check("Fewest of points", ruler(1), 0, hits(0, 0, 10, 10), api.ErrGap)
}

func TestP7_4CheckApart(t *testing.T) {
	tenths := func(n ...int) []api.CoverPoint {
		var l []api.CoverPoint
		for _, x := range n {
			l = append(l, point(x, 10))
		}
		return l
	}
	ask := func(ends ...int) api.CoverChoice { return api.CoverChoice{Setups: hits(ends...)} }
	for _, x := range []struct {
		x api.CoverChoice
		p []api.CoverPoint
		n int
		e api.Errno
	}{
		{ask(), nil, 0, api.OK}, {ask(), tenths(0, 1, 2, 3, 4, 5, 6, 7, 8, 9, 10), 11, api.OK}, {ask(0, 10), nil, 0, api.OK}, {ask(0, 10), tenths(5), 1, api.OK}, {ask(0, 10), tenths(0, 10), 0, api.ErrProof},
		{ask(0, 5, 5, 10), tenths(0, 5), 0, api.ErrProof}, {ask(0, 5, 5, 10), tenths(5, 10), 0, api.ErrProof}, {ask(0, 5, 5, 10), tenths(4, 6), 2, api.OK}, {ask(0, 5, 5, 10), tenths(5), 1, api.OK}, {ask(0, 5, 5, 10), tenths(1, 6, 8), 0, api.ErrProof},
		{ask(3, 5), tenths(0, 1, 2, 3, 6, 7), 6, api.OK}, {ask(3, 5), tenths(0, 1, 2, 4, 5), 0, api.ErrProof}, {ask(3, 5), tenths(0, 1, 2, 5), 4, api.OK}, {ask(3, 5, 2, 3), tenths(2, 3), 0, api.ErrProof}, {ask(3, 3), tenths(2, 3, 4), 3, api.OK},
		{ask(), []api.CoverPoint{point(1, 3), point(333333333334, 1000000000000)}, 2, api.OK}, {ask(), []api.CoverPoint{point(333333333334, 1000000000000), point(1, 3)}, 0, api.ErrOrder},
		{ask(), []api.CoverPoint{point(1, 3), point(333333333333, 1000000000000)}, 0, api.ErrOrder}, {ask(), []api.CoverPoint{point(999999999998, 999999999999), point(999999999999, 1000000000000)}, 2, api.OK},
		{ask(0, 10), tenths(1, 1), 0, api.ErrOrder}, {ask(0, 10), tenths(1, 2, 1), 0, api.ErrOrder},
		{ask(), tenths(0, 1, 2, 3, 4, 5, 6, 7, 8, 9, 10, 10), 0, api.ErrOrder}, {ask(), tenths(0, 1, 2, 3, 4, 5, 6, 7, 8, 9, 10, 10, 10), 0, api.ErrLarge}, {ask(0, 10), make([]api.CoverPoint, 13), 0, api.ErrLarge},
	} {
		n, e := cover.CheckApart(ruler(1), x.x, x.p)
		want(t, "CheckApart of "+shown(x.p), n, e, x.n, x.e)
	}
	d := newDice(9)
	counts := map[bool]int{}
	for range 2000 {
		j := d.joint(1)
		x := api.CoverChoice{Setups: d.setups(j, 4)}
		if d.from(0, 1) == 0 {
			j, x.Setups = ruler(1), d.hits(1, 5)
		}
		var points []api.CoverPoint
		for n := range 21 {
			if d.from(0, 9) == 0 && len(points) < 12 {
				points = append(points, point(n, 20))
			}
		}
		n, e := cover.CheckApart(j, x, points)
		if areApart(j, 0, x.Setups, points) {
			want(t, "CheckApart", n, e, len(points), api.OK)
		} else {
			want(t, "CheckApart", n, e, 0, api.ErrProof)
		}
		counts[e == api.OK]++
	}
	if counts[true] < 500 || counts[false] < 200 {
		t.Error("too few points that are apart, or not:", counts)
	}
}

func TestP7_4CheckApartErrors(t *testing.T) {
	wrong := make([]api.CoverPoint, 13)
	for _, x := range wrongJoints() {
		n, e := cover.CheckApart(x.j, api.CoverChoice{Face: -1}, wrong)
		want(t, "CheckApart of a wrong joint", n, e, 0, x.right)
	}
	for _, face := range wrongFaces() {
		n, e := cover.CheckApart(slant(), api.CoverChoice{Face: face, Setups: make([]api.CoverSetup, 13)}, wrong)
		want(t, "CheckApart of no face", n, e, 0, api.ErrMissing)
	}
	for _, x := range wrongLists() {
		n, e := cover.CheckApart(slant(), api.CoverChoice{Setups: x.l}, wrong)
		want(t, "CheckApart of wrong set-ups", n, e, 0, x.right)
	}
	x := api.CoverChoice{Setups: []api.CoverSetup{direct()}}
	for _, y := range wrongPoints() {
		for _, points := range [][]api.CoverPoint{{y.p}, {point(0, 1), point(1, 2), y.p, point(0, 1)}, {y.p, {}}} {
			n, e := cover.CheckApart(slant(), x, points)
			want(t, "CheckApart of "+shown(points), n, e, 0, y.right)
		}
	}
	n, e := cover.CheckApart(slant(), x, []api.CoverPoint{point(1, 2), point(1, 2), {}})
	want(t, "CheckApart of a wrong order ahead of a wrong form", n, e, 0, api.ErrOrder)
}

func TestP7_4LeastPlan(t *testing.T) {
	for _, x := range []struct {
		j     api.CoverJoint
		l     []api.CoverSetup
		right []int
		e     api.Errno
	}{
		{ruler(0), nil, nil, api.OK}, {ruler(0), hits(0, 10), nil, api.OK}, {ruler(1), nil, nil, api.ErrGap}, {ruler(1), hits(0, 9), nil, api.ErrGap},
		{ruler(1), hits(0, 10), []int{0}, api.OK}, {ruler(1), hits(0, 10, 0, 10), []int{0}, api.OK}, {ruler(1), hits(0, 9, 0, 10, 0, 10), []int{1}, api.OK},
		{ruler(1), hits(0, 5, 0, 6, 6, 10, 5, 10), []int{0, 3}, api.OK}, {ruler(1), hits(5, 10, 6, 10, 0, 6, 0, 5), []int{0, 2}, api.OK}, {ruler(1), hits(0, 5, 5, 10, 0, 10), []int{2}, api.OK},
		{ruler(2), hits(0, 10, 10, 20, 0, 15, 15, 20), []int{0, 1}, api.OK}, {ruler(2), hits(0, 10, 10, 16, 0, 14, 15, 20), []int{0, 1, 3}, api.OK}, {ruler(2), hits(0, 10, 12, 19, 0, 15, 15, 20), []int{2, 3}, api.OK},
		{ruler(3), hits(0, 10, 10, 20), nil, api.ErrGap}, {ruler(3), hits(0, 10, 10, 20, 20, 29), nil, api.ErrGap},
		{ruler(1), hits(0, 1, 1, 2, 2, 3, 3, 4, 4, 5, 5, 6, 6, 7, 7, 8, 8, 9, 9, 10, 0, 0, 10, 10), []int{0, 1, 2, 3, 4, 5, 6, 7, 8, 9}, api.OK},
		{ruler(1), hits(0, 1, 1, 2, 2, 3, 3, 4, 4, 5, 5, 6, 6, 7, 7, 8, 9, 10, 8, 9, 0, 0, 1, 2), []int{0, 1, 2, 3, 4, 5, 6, 7, 8, 9}, api.OK},
		{slant(), []api.CoverSetup{direct(), skip()}, []int{1}, api.OK}, {slant(), []api.CoverSetup{direct()}, nil, api.ErrGap},
	} {
		numbers, e := cover.LeastPlan(x.j, x.l)
		want(t, "LeastPlan of "+shown(x.l), numbers, e, x.right, x.e)
	}
	d := newDice(10)
	counts := map[int]int{}
	for range 400 {
		j := d.joint(2)
		l := d.setups(j, 6)
		if d.from(0, 2) > 0 {
			faces := d.from(1, 2)
			j, l = ruler(faces), d.hits(faces, 8)
		}
		right, isCovered := leastChoice(j, l, rising(len(j.Faces))...)
		numbers, e := cover.LeastPlan(j, l)
		if isCovered {
			want(t, "LeastPlan of "+shown(j)+" and "+shown(l), numbers, e, right, api.OK)
			counts[len(right)]++
		} else {
			want(t, "LeastPlan of a gap", numbers, e, nil, api.ErrGap)
		}
	}
	if counts[1] < 10 || counts[2] < 10 || counts[3] < 10 {
		t.Error("too few joints that need so many set-ups:", counts)
	}
	for _, x := range wrongJoints() {
		numbers, e := cover.LeastPlan(x.j, make([]api.CoverSetup, 13))
		want(t, "LeastPlan of a wrong joint", numbers, e, nil, x.right)
	}
	for _, x := range wrongLists() {
		numbers, e := cover.LeastPlan(slant(), x.l)
		want(t, "LeastPlan of wrong set-ups", numbers, e, nil, x.right)
	}
}
