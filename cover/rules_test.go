package cover_test

import (
	"slices"
	"strings"
	"testing"

	"couplant/api"
	"couplant/cover"
)

// TestP7NoPanic (R2) calls all functions with numbers of all sizes.
func TestP7NoPanic(t *testing.T) {
	numbers := []int{smallest, smallest + 1, -api.MaxCoverDen, -api.MaxCoverPlace, -2, -1, 0, 1, 2, 3, 10, 100, 1000, api.MaxCoverShift, api.MaxCoverPlace, api.MaxPlace, api.MaxCoverPosition, api.MaxCoverDen, greatest - 1, greatest}
	d := newDice(17)
	roll := func() int { return numbers[d.IntN(len(numbers))] }
	spot := func() api.Spot { return api.Spot{X: roll(), Z: roll()} }
	fraction := func() api.Frac { return api.Frac{Num: roll(), Den: roll()} }
	for range 20000 {
		j, bevel := d.joint(4), bevel()
		setup, setups, n := d.setup(j, 11), d.setups(j, 4), d.from(0, len(j.Faces)-1)
		points := []api.CoverPoint{point(0, 1), point(1, 3)}
		for _, change := range []func(){
			func() { j.Faces[d.IntN(len(j.Faces))].From = spot() },
			func() { j.Faces[d.IntN(len(j.Faces))].To = spot() },
			func() { j.Thick, j.Zone = roll(), roll() },
			func() { j.Faces = nil },
			func() { bevel.Thick, bevel.Land = roll(), roll() },
			func() { bevel.HalfGap, bevel.Tangent = roll(), fraction() },
			func() { setup.At, setup.Legs = roll(), roll() },
			func() { setup.Side, setup.Least = roll(), fraction() },
			func() { setup.Most, setup.Tilt = fraction(), fraction() },
			func() { setups = append(setups, setup) },
			func() { setups = nil },
			func() { points = append(points, api.CoverPoint(fraction()), api.CoverPoint{}) },
			func() { points[d.IntN(2)] = api.CoverPoint(fraction()) },
			func() { n = roll() },
		} {
			if d.from(0, 9) == 0 {
				change()
			}
		}
		ask, track := api.CoverAsk{Face: n, Setup: setup}, api.CoverTrack{From: roll(), To: roll(), Slip: roll(), Reach: roll()}
		cover.CheckJoint(j)
		cover.Bevelled(bevel)
		cover.CheckSetup(setup)
		cover.SpotAt(j, n, points[0])
		cover.InZone(j, spot())
		cover.IsMet(j, ask, points[1])
		cover.PartOf(j, ask)
		cover.SurePart(j, ask, roll())
		cover.FirstGap(j, n, setups)
		cover.CheckPlan(j, setups)
		cover.Fewest(j, n, setups)
		cover.CheckApart(j, api.CoverChoice{Face: n, Setups: setups}, points)
		cover.LeastPlan(j, setups)
		cover.CheckTrack(track)
		cover.Scanned(track, []int{roll(), roll()})
		cover.Anew(track, []int{roll(), roll()})
		cover.ParseSetup(cover.FormatSetup(setup))
		text, _ := cover.Print(j)
		cover.Parse(d.spoiled(text))
	}
}

// spoiled is a text in which some bytes are others, or are missing.
func (d dice) spoiled(text string) string {
	bytes := []byte(text)
	for range d.from(0, 3) {
		if len(bytes) == 0 {
			break
		}
		n := d.IntN(len(bytes))
		if d.from(0, 1) == 0 {
			bytes = slices.Delete(bytes, n, min(len(bytes), n+d.from(0, 9)))
			continue
		}
		bytes[n] = " \t\n-9999a\xff"[d.IntN(10)]
	}
	return string(bytes)
}

// TestP7Marks (P7.6) looks whether marks of spoiled texts point at a word, or at the end of a line.
func TestP7Marks(t *testing.T) {
	d := newDice(18)
	counts := map[api.Errno]int{}
	for range 20000 {
		text, _ := cover.Print(d.joint(4))
		text = d.spoiled(text)
		j, m, e := cover.Parse(text)
		counts[e]++
		if e == api.OK {
			again, _ := cover.Print(j)
			same := strings.Join(strings.Fields(text), " ") == strings.Join(strings.Fields(again), " ")
			want(t, "whether the words are the same", same, e, true, api.OK)
			continue
		}
		lines := append(strings.Split(text, "\n"), "")
		if m.Column == 1 && e == api.ErrMissing {
			want(t, "whether there are no words", len(strings.Fields(text)), e, 0, e)
			continue
		}
		line := lines[m.Line-1]
		want(t, "the joint", j, e, api.CoverJoint{}, e)
		want(t, "whether the lines before are right", isRight(lines[:m.Line-1]), e, true, e)
		if e == api.ErrMissing {
			want(t, "the column of the end", m.Column, e, len(strings.TrimRight(line, " \t"))+1, e)
			continue
		}
		isBegin := !strings.ContainsAny(line[m.Column-1:m.Column], " \t") && (m.Column == 1 || strings.ContainsAny(line[m.Column-2:m.Column-1], " \t"))
		want(t, "whether a word begins there", isBegin, e, true, e)
	}
	for _, e := range []api.Errno{api.OK, api.ErrSyntax, api.ErrMissing, api.ErrName, api.ErrRange} {
		if counts[e] < 100 {
			t.Error("too few texts with the error", e)
		}
	}
}

// isRight tells whether lines are no joint yet, or a right one.
func isRight(lines []string) bool {
	text := strings.Join(lines, "\n")
	_, _, e := cover.Parse(text)
	return e == api.OK || len(strings.Fields(text)) == 0
}

// TestP7Memory (R3) writes into results, and behind them: arguments, and results of later calls, stay as they are.
func TestP7Memory(t *testing.T) {
	joint := slant()
	joint.Faces = append(joint.Faces, face(5, 1, 2, 3, 4))[:1]
	setups := append(hits(5, 10, 0, 5, 2, 8), skip())[:3]
	readings := []int{38, 20, 55}[:2]
	track := api.CoverTrack{To: 100, Slip: 2, Reach: 10}
	spoil := func(l []int, e api.Errno) string {
		text := shown(l)
		for n := range l {
			l[n] += 77
		}
		_ = append(l, 88)
		return text
	}
	spoilRanges := func(l []api.Range, e api.Errno) string {
		text := shown(l)
		for n := range l {
			l[n].Lo += 77
		}
		_ = append(l, api.Range{Lo: 88})
		return text
	}
	spoilJoint := func(j api.CoverJoint, e api.Errno) string {
		text := shown(j)
		for n := range j.Faces {
			j.Faces[n].Name += "x"
		}
		_ = append(j.Faces, api.CoverFace{})
		return text
	}
	for n, result := range []func() string{
		func() string { return spoilJoint(cover.Bevelled(bevel())) },
		func() string {
			j, _, e := cover.Parse("joint v thick 1000 zone 0\nface f 0 1000 1000 0\n")
			return spoilJoint(j, e)
		},
		func() string {
			numbers, points, e := cover.Fewest(ruler(1), 0, setups)
			text := shown(points)
			points[0].Num += 77
			_ = append(points, api.CoverPoint{})
			return text + spoil(numbers, e)
		},
		func() string { return spoil(cover.LeastPlan(ruler(1), setups)) },
		func() string { return spoilRanges(cover.Scanned(track, readings)) },
		func() string { return spoilRanges(cover.Anew(track, readings)) },
	} {
		first := result()
		want(t, "a result again", result(), api.OK, first, api.OK)
		if len(first) < 5 || t.Failed() {
			t.Fatalf("the result %d is spoiled", n)
		}
	}
	points := []api.CoverPoint{point(0, 1), point(1, 1), {}}[:2]
	cover.CheckApart(joint, api.CoverChoice{Setups: setups}, points)
	cover.CheckPlan(joint, setups)
	cover.FirstGap(joint, 0, setups)
	cover.PartOf(joint, api.CoverAsk{Setup: skip()})
	cover.SurePart(joint, api.CoverAsk{Setup: skip()}, 100)
	want(t, "the faces", joint.Faces[:2], api.OK, []api.CoverFace{slant().Faces[0], face(5, 1, 2, 3, 4)}, api.OK)
	want(t, "the set-ups", setups[:4], api.OK, append(hits(5, 10, 0, 5, 2, 8), skip()), api.OK)
	want(t, "the readings", readings[:3], api.OK, []int{38, 20, 55}, api.OK)
	want(t, "the points", points[:3], api.OK, []api.CoverPoint{point(0, 1), point(1, 1), {}}, api.OK)
}
