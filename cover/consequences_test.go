package cover_test

import (
	"slices"
	"strings"
	"testing"

	"couplant/api"
	"couplant/cover"
)

// isIn tells whether a point lies in a part.
func isIn(p api.CoverPoint, q api.CoverPart) bool {
	return shareOf(q.From).Cmp(shareOf(p)) <= 0 && shareOf(p).Cmp(shareOf(q.To)) <= 0
}

// TestP7_7 holds points against parts, and sure parts against the parts of all set-ups between.
func TestP7_7(t *testing.T) {
	d := newDice(12)
	sure := 0
	for range 3000 {
		j := d.joint(2)
		x := api.CoverAsk{Face: d.IntN(len(j.Faces)), Setup: d.setup(j, 0)}
		p, e := cover.PartOf(j, x)
		for n := range 21 {
			q := point(n, 20)
			is, f := cover.IsMet(j, x, q)
			want(t, "whether a point is met", is, f, e == api.OK && isIn(q, p), api.OK)
		}
		shift := min(d.one(1, 3, d.from(0, 5000)), 20000-x.Setup.At, 20000+x.Setup.At)
		p, e = cover.SurePart(j, x, shift)
		if e != api.OK {
			continue
		}
		sure++
		for range 10 {
			y := x
			y.Setup.At += d.from(-shift, shift)
			q, e := cover.PartOf(j, y)
			want(t, "whether the sure part lies in the part of another set-up", isIn(p.From, q) && isIn(p.To, q), e, true, api.OK)
		}
	}
	if sure < 200 {
		t.Error("too few sure parts:", sure)
	}
}

// TestP7_8 asks for points in gaps, and elsewhere, and adds a set-up.
func TestP7_8(t *testing.T) {
	d := newDice(13)
	gaps, none := 0, 0
	for range 2000 {
		faces := d.from(1, 2)
		j, l := ruler(faces), d.hits(faces, 8)
		if d.from(0, 1) == 0 {
			j = d.joint(1)
			l = d.setups(j, 8)
		}
		isMet := func(p api.CoverPoint, l []api.CoverSetup) bool {
			return slices.ContainsFunc(l, func(s api.CoverSetup) bool {
				is, e := cover.IsMet(j, api.CoverAsk{Setup: s}, p)
				return is && e == api.OK
			})
		}
		gap, e := cover.FirstGap(j, 0, l)
		if e == api.ErrNone {
			none++
			for n := range 31 {
				want(t, "whether a point is met", isMet(point(n, 30), l), e, true, e)
			}
			continue
		}
		gaps++
		from, to := shareOf(gap.From), shareOf(gap.To)
		for n := 1; n < 30; n++ {
			p := pointOf(sum(from, product(rational(n, 30), difference(to, from))))
			if p.Den <= api.MaxCoverDen {
				want(t, "whether a point of a gap is met", isMet(p, l), e, false, api.OK)
			}
		}
		want(t, "whether the end of a gap is met", isMet(gap.From, l) || gap.From == point(0, 1), e, true, api.OK)
		want(t, "whether the end of a gap is met", isMet(gap.To, l) || gap.To == point(1, 1), e, true, api.OK)
		if len(l) > 0 {
			// Without one of them no gap begins later.
			fewer, e := cover.FirstGap(j, 0, l[1:])
			want(t, "whether a set-up more makes no gap wider", shareOf(fewer.From).Cmp(from) <= 0, e, true, api.OK)
		}
	}
	if gaps < 300 || none < 300 {
		t.Error("too few gaps, or faces without:", gaps, none)
	}
}

// TestP7_9 holds all plans that cover a face against points that are apart, and the least plan against the fewest of each face.
func TestP7_9(t *testing.T) {
	d := newDice(14)
	plans := 0
	for range 300 {
		faces := d.from(1, 3)
		j, l := ruler(faces), d.hits(faces, 10)
		least, e := cover.LeastPlan(j, l)
		if e != api.OK {
			want(t, "LeastPlan", least, e, nil, api.ErrGap)
			continue
		}
		var plan []api.CoverSetup
		for _, n := range least {
			plan = append(plan, l[n])
		}
		n, _, e := cover.CheckPlan(j, plan)
		want(t, "CheckPlan of the least plan", n, e, 0, api.OK)
		for n := range faces {
			numbers, points, e := cover.Fewest(j, n, l)
			want(t, "whether the least plan has enough set-ups", len(numbers) <= len(least), e, true, api.OK)
			count, e := cover.CheckApart(j, api.CoverChoice{Face: n, Setups: l}, points)
			want(t, "CheckApart of the points", count, e, len(numbers), api.OK)
			for range 30 {
				var some []api.CoverSetup
				for _, s := range l {
					if d.from(0, 2) > 0 {
						some = append(some, s)
					}
				}
				if _, e := cover.FirstGap(j, n, some); e == api.ErrNone {
					plans++
					want(t, "whether a plan has enough set-ups", len(some) >= count, e, true, e)
				}
			}
		}
	}
	if plans < 300 {
		t.Error("too few plans:", plans)
	}
}

// TestP7_10 looks at joints and set-ups from behind, and moves them.
func TestP7_10(t *testing.T) {
	d := newDice(15)
	some := 0
	for range 5000 {
		j := d.joint(2)
		x := api.CoverAsk{Face: d.IntN(len(j.Faces)), Setup: d.setup(j, 0)}
		mirrored, moved := j, j
		mirrored.Faces, moved.Faces = nil, nil
		y, z := x, x
		y.Setup.At, y.Setup.Side = -x.Setup.At, -x.Setup.Side
		lo, hi := x.Setup.At, x.Setup.At
		for _, f := range j.Faces {
			lo, hi = min(lo, f.From.X, f.To.X), max(hi, f.From.X, f.To.X)
		}
		by := d.from(-20000-lo, 20000-hi)
		z.Setup.At += by
		for _, f := range j.Faces {
			g := f
			g.From.X, g.To.X = -f.From.X, -f.To.X
			mirrored.Faces = append(mirrored.Faces, g)
			f.From.X, f.To.X = f.From.X+by, f.To.X+by
			moved.Faces = append(moved.Faces, f)
		}
		p, e := cover.PartOf(j, x)
		q, f := cover.PartOf(mirrored, y)
		want(t, "PartOf from behind", q, f, p, e)
		q, f = cover.PartOf(moved, z)
		want(t, "PartOf elsewhere", q, f, p, e)
		if e == api.OK {
			some++
		}
	}
	if some < 1000 {
		t.Error("too few parts:", some)
	}
}

// TestP7_11 counts the positions of tracks, adds readings in other orders, and reads texts that were written.
func TestP7_11(t *testing.T) {
	d := newDice(16)
	sizeOf := func(l []api.Range) int {
		count := 0
		for _, r := range l {
			count += r.Hi - r.Lo + 1
		}
		return count
	}
	isAmong := func(few, many []api.Range) bool {
		return !slices.ContainsFunc(few, func(r api.Range) bool {
			return !slices.ContainsFunc(many, func(s api.Range) bool { return s.Lo <= r.Lo && r.Hi <= s.Hi })
		})
	}
	for range 2000 {
		from := d.from(0, 1000000)
		track := api.CoverTrack{From: from, To: d.from(from, 1000000), Slip: d.from(0, 100), Reach: d.from(0, d.one(200, 100000))}
		var readings []int
		for range d.from(0, 20) {
			readings = append(readings, d.from(-100000, 1100000))
		}
		scanned, e := cover.Scanned(track, readings)
		anew, f := cover.Anew(track, readings)
		want(t, "how many positions there are", sizeOf(scanned)+sizeOf(anew), max(e, f), track.To-track.From+1, api.OK)
		for _, r := range anew {
			isMissed := !isScanned(track, readings, r.Lo) && !isScanned(track, readings, r.Hi)
			want(t, "whether the ends are missed", isMissed, f, true, api.OK)
		}
		more := append([]int{d.from(-2000000, 2000000)}, readings...)
		d.Shuffle(len(more), func(a, b int) { more[a], more[b] = more[b], more[a] })
		less, e := cover.Anew(track, more)
		want(t, "whether more readings leave no more", isAmong(less, anew), e, true, api.OK)
	}
	for range 2000 {
		j := d.joint(12)
		text, e := cover.Print(j)
		want(t, "how many lines there are", strings.Count(text, "\n"), e, len(j.Faces)+1, api.OK)
		read, m, e := cover.Parse(text)
		want(t, "Parse of Print", read, e, j, api.OK)
		want(t, "the mark of Parse", m, e, api.TextMark{}, api.OK)
		loose := strings.NewReplacer(" ", d.gap(), "\n", d.gap()+"\n"+d.gap()+"\n"+d.gap()).Replace(text)
		read, _, e = cover.Parse(loose)
		want(t, "Parse of a text with more gaps", read, e, j, api.OK)
		s := d.setup(j, 3)
		back, e := cover.ParseSetup(cover.FormatSetup(s))
		want(t, "ParseSetup of FormatSetup", back, e, s, api.OK)
	}
}

// gap rolls what may stand between words.
func (d dice) gap() string {
	return []string{" ", "\t", "  ", " \t ", "\t\t"}[d.IntN(5)]
}
