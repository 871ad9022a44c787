package law_test

import (
	"slices"
	"testing"

	"couplant/api"
	"couplant/law"
	"couplant/ray"
)

func TestP2_2FocusLaw(t *testing.T) {
	l, e := law.FocusLaw(two(), focus())
	want(t, "FocusLaw", l, e, ticks(1200, 0), api.OK)
	same := two()
	same.Elements = append(same.Elements, same.Elements[0])
	l, e = law.FocusLaw(same, focus())
	want(t, "FocusLaw with two elements at one place", l, e, ticks(1200, 0, 1200), api.OK)
	one := two()
	one.Elements = one.Elements[:1]
	l, e = law.FocusLaw(one, focus())
	want(t, "FocusLaw of one element", l, e, ticks(0), api.OK)
	skipped := two()
	skipped.Mode.Skips = 1
	l, e = law.FocusLaw(skipped, focus())
	// The bounds of both ways are 14 and 2, 7 and 2: 4399992 and 5599995 rounded.
	want(t, "FocusLaw with a skip", l, e, ticks(1200, 0), api.OK)
}

// TestP2_2FocusHalves divides a difference of 1200004: by 8 it leaves a half, by 80 and 800 less, by 3 and 800002 more.
func TestP2_2FocusHalves(t *testing.T) {
	for clock, right := range map[int]int{8: 150001, 80: 15000, 800: 1500, 3: 400001, 800002: 2, 800003: 1, 1000000: 1} {
		a := two()
		a.Clock = clock
		l, e := law.FocusLaw(a, focus())
		want(t, "FocusLaw", l, e, api.DelayLaw{Clock: clock, Ticks: []int{right, 0}}, api.OK)
	}
	a := two()
	a.Clock = 1
	l, e := law.FocusLaw(a, focus())
	want(t, "FocusLaw with too many ticks", l, e, none(), api.ErrLarge)
}

// TestP2_2FocusDefinition holds laws of foci against the definition.
func TestP2_2FocusDefinition(t *testing.T) {
	d := newDice(1)
	for range 1000 {
		a, at := d.array()
		var times []int
		for _, p := range a.Elements {
			time, _ := ray.RoundedTime(a.Mode, p, at)
			times = append(times, time)
		}
		right := api.DelayLaw{Clock: a.Clock}
		for _, time := range times {
			right.Ticks = append(right.Ticks, rightRounded(number(slices.Max(times)-time), number(a.Clock)))
		}
		l, e := law.FocusLaw(a, at)
		if slices.Max(right.Ticks) > api.MaxTicks {
			want(t, "FocusLaw", l, e, none(), api.ErrLarge)
			continue
		}
		want(t, "FocusLaw", l, e, right, api.OK)
		want(t, "the least ticks", slices.Min(l.Ticks), e, 0, api.OK)
	}
}

func TestP2_2FocusErrors(t *testing.T) {
	for _, x := range wrongPlaces() {
		l, e := law.FocusLaw(two(), x.at)
		want(t, "FocusLaw of a wrong place", l, e, none(), x.right)
		fine := two()
		fine.Clock = 1
		l, e = law.FocusLaw(fine, x.at)
		want(t, "FocusLaw of a wrong place with a short clock", l, e, none(), x.right)
	}
	for _, z := range []int{1, 999} {
		_, e := law.FocusLaw(two(), api.Spot{X: 100000, Z: z})
		wantError(t, "FocusLaw just inside", e, api.OK)
	}
	// In a wedge of 10000 each place is 1000 picoseconds high: the ticks are 1000000 and more.
	a := two()
	a.Mode = api.RayMode{Wedge: 10000, Metal: 10000, Thick: 1000}
	a.Elements = []api.Spot{{Z: -100000}, {Z: -99000}}
	a.Clock = 1
	// The bound is 1 for both heights in the wedge.
	l, e := law.FocusLaw(a, focus())
	want(t, "FocusLaw with the most ticks", l, e, api.DelayLaw{Clock: 1, Ticks: []int{0, 1000000}}, api.OK)
	a.Elements[1].Z++
	l, e = law.FocusLaw(a, focus())
	want(t, "FocusLaw with too many ticks", l, e, none(), api.ErrLarge)
}

func TestP2_2PlaneLaw(t *testing.T) {
	slanted := two()
	slanted.Elements[1] = api.Spot{X: 500, Z: -300}
	for _, x := range []struct {
		a     api.LawArray
		turn  api.LawTurn
		right api.DelayLaw
	}{
		{two(), api.LawTurn{P: 0, Q: 1, R: 1}, ticks(1200, 0)},
		{two(), api.LawTurn{P: 0, Q: 1000, R: 1000}, ticks(1200, 0)},
		{slanted, api.LawTurn{P: 0, Q: 1, R: 1}, ticks(0, 0)},
		{slanted, api.LawTurn{P: 3, Q: 4, R: 5}, ticks(0, 1200)},
		{slanted, api.LawTurn{P: -3, Q: 4, R: 5}, ticks(1200, 0)},
		{slanted, api.LawTurn{P: -600, Q: 800, R: 1000}, ticks(1200, 0)},
		// 500 * 5 - 300 * 12 is 2500 more than - 300 * 12: 769.23 ticks.
		{slanted, api.LawTurn{P: 5, Q: 12, R: 13}, ticks(0, 769)},
	} {
		l, e := law.PlaneLaw(x.a, x.turn)
		want(t, "PlaneLaw", l, e, x.right, api.OK)
	}
}

// TestP2_2PlaneHalves has delays of 1.5 and 2.5 ticks, and some around.
func TestP2_2PlaneHalves(t *testing.T) {
	a := api.LawArray{Mode: two().Mode, Clock: 8000}
	for _, z := range []int{-9, -8, -7, -6, -5, -4, -3} {
		a.Elements = append(a.Elements, api.Spot{Z: z})
	}
	// A height of 1 is half a tick.
	l, e := law.PlaneLaw(a, api.LawTurn{P: 0, Q: 1, R: 1})
	want(t, "PlaneLaw", l, e, api.DelayLaw{Clock: 8000, Ticks: []int{0, 1, 1, 2, 2, 3, 3}}, api.OK)
	a.Clock = 8001
	l, e = law.PlaneLaw(a, api.LawTurn{P: 0, Q: 1, R: 1})
	want(t, "PlaneLaw with a longer clock", l, e, api.DelayLaw{Clock: 8001, Ticks: []int{0, 0, 1, 1, 2, 2, 3}}, api.OK)
}

// TestP2_2PlaneDefinition holds laws of directions against the definition.
func TestP2_2PlaneDefinition(t *testing.T) {
	d := newDice(2)
	turns := []api.LawTurn{{P: 0, Q: 1, R: 1}, {P: 3, Q: 4, R: 5}, {P: -4, Q: 3, R: 5}, {P: 20, Q: 21, R: 29}, {P: -280, Q: 960, R: 1000}}
	for range 1000 {
		a, _ := d.array()
		turn := turns[d.IntN(len(turns))]
		var s []int
		for _, p := range a.Elements {
			s = append(s, p.X*turn.P+p.Z*turn.Q)
		}
		right := api.DelayLaw{Clock: a.Clock}
		for n := range s {
			right.Ticks = append(right.Ticks, rightRounded(product(s[n]-slices.Min(s), 10000000), product(turn.R, a.Mode.Wedge, a.Clock)))
		}
		l, e := law.PlaneLaw(a, turn)
		if slices.Max(right.Ticks) > api.MaxTicks {
			want(t, "PlaneLaw", l, e, none(), api.ErrLarge)
			continue
		}
		want(t, "PlaneLaw", l, e, right, api.OK)
		want(t, "the least ticks", slices.Min(l.Ticks), e, 0, api.OK)
	}
}

func TestP2_2PlaneErrors(t *testing.T) {
	for _, x := range wrongTurns() {
		l, e := law.PlaneLaw(two(), x.turn)
		want(t, "PlaneLaw of a wrong direction", l, e, none(), x.right)
	}
	a := two()
	a.Mode.Wedge, a.Clock = 10000, 1
	a.Elements = []api.Spot{{Z: -100000}, {Z: -99000}}
	straight := api.LawTurn{P: 0, Q: 1, R: 1}
	l, e := law.PlaneLaw(a, straight)
	want(t, "PlaneLaw with the most ticks", l, e, api.DelayLaw{Clock: 1, Ticks: []int{0, 1000000}}, api.OK)
	a.Elements[1].Z++
	l, e = law.PlaneLaw(a, straight)
	want(t, "PlaneLaw with too many ticks", l, e, none(), api.ErrLarge)
	wide := api.LawArray{Elements: []api.Spot{{X: -100000, Z: -100000}, {X: 100000, Z: -1}}, Mode: two().Mode, Clock: 1000000}
	wide.Mode.Wedge = 500
	// 200000 * 600 and 99999 * 800, times 10^7, divided by 1000 * 500 * 10^6: 3999.98.
	l, e = law.PlaneLaw(wide, api.LawTurn{P: 600, Q: 800, R: 1000})
	want(t, "PlaneLaw of a wide array", l, e, api.DelayLaw{Clock: 1000000, Ticks: []int{0, 4000}}, api.OK)
}
