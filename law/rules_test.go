package law_test

import (
	"slices"
	"testing"

	"couplant/api"
	"couplant/law"
)

// TestP2NoPanic (R2) calls all functions with numbers of all sizes.
func TestP2NoPanic(t *testing.T) {
	numbers := []int{smallest, smallest + 1, -api.MaxPlace, -2, -1, 0, 1, 2, 1000, 5000, api.MaxPlace, greatest - 1, greatest}
	d := newDice(14)
	roll := func() int { return numbers[d.IntN(len(numbers))] }
	list := func() []int {
		var l []int
		for range d.from(0, 3) {
			l = append(l, roll())
		}
		return l
	}
	spots := func() []api.Spot {
		var l []api.Spot
		for range d.from(0, 3) {
			l = append(l, api.Spot{X: roll(), Z: roll()})
		}
		return l
	}
	for range 20000 {
		at := api.Spot{X: roll(), Z: roll()}
		a := api.LawArray{Elements: spots(), Mode: api.RayMode{Wedge: roll(), Metal: roll(), Skips: roll(), Thick: roll()}, Clock: roll()}
		if d.from(0, 1) == 0 {
			a = two()
		}
		l, other := api.DelayLaw{Clock: roll(), Ticks: list()}, api.DelayLaw{Clock: roll(), Ticks: list()}
		turn := api.LawTurn{P: roll(), Q: roll(), R: roll()}
		x := api.LawPitch{Pitch: roll(), Speed: roll(), Kilohertz: roll(), Turn: turn}
		law.CheckArray(a)
		law.CheckLaw(l)
		law.CheckTurn(turn)
		law.FocusLaw(a, at)
		law.PlaneLaw(a, turn)
		law.Arrivals(a, l, at)
		law.Spread(a, l, at)
		law.LossOf(roll(), roll())
		law.Without(l, list())
		law.Sending(l)
		law.Aperture(a, l)
		law.Normalised(l)
		law.Added(l, other)
		law.Recast(l, roll())
		law.Coarsest(a, at, api.LawClocks{Clocks: list(), Most: roll()})
		law.BestAt(a, l, spots())
		law.GratingFree(x)
		law.SteepestFree(x)
		law.NearField(roll(), roll(), roll())
		law.ParseLaw(law.FormatLaw(l))
	}
}

// TestP2Memory (R3) writes into results, and behind them: arguments and other results stay as they are.
func TestP2Memory(t *testing.T) {
	spoil := func(l []int) {
		for n := range l {
			l[n] = 77
		}
		_ = append(l[:0], 88)
	}
	a, l := two(), ticks(1200, 0)
	results := []func() (api.DelayLaw, api.Errno){
		func() (api.DelayLaw, api.Errno) { return law.FocusLaw(a, focus()) },
		func() (api.DelayLaw, api.Errno) { return law.PlaneLaw(a, api.LawTurn{Q: 1, R: 1}) },
		func() (api.DelayLaw, api.Errno) { return law.Without(l, nil) },
		func() (api.DelayLaw, api.Errno) { return law.Normalised(l) },
		func() (api.DelayLaw, api.Errno) { return law.Added(l, ticks(0, 0)) },
		func() (api.DelayLaw, api.Errno) { return law.Recast(l, 1000) },
		func() (api.DelayLaw, api.Errno) { return law.ParseLaw("1000 1200 0") },
	}
	for n, result := range results {
		first, e := result()
		want(t, "a result", first, e, ticks(1200, 0), api.OK)
		spoil(first.Ticks)
		second, e := result()
		want(t, "a result again", second, e, ticks(1200, 0), api.OK)
		want(t, "its argument", l, api.OK, ticks(1200, 0), api.OK)
		if t.Failed() {
			t.Fatalf("the result %d", n)
		}
	}
	numbers, _ := law.Sending(l)
	spoil(numbers)
	arrivals, _ := law.Arrivals(a, l, focus())
	arrivals[0].Lo = 99
	dead, places, clocks := []int{0}, []api.Spot{{X: 300, Z: 400}, focus()}, []int{700, 1000}
	law.Without(l, dead)
	law.BestAt(a, l, places)
	law.Coarsest(a, focus(), api.LawClocks{Clocks: clocks, Most: 18})
	want(t, "an array", a, api.OK, two(), api.OK)
	want(t, "a law", l, api.OK, ticks(1200, 0), api.OK)
	want(t, "dead elements", dead, api.OK, []int{0}, api.OK)
	want(t, "places", places, api.OK, []api.Spot{{X: 300, Z: 400}, focus()}, api.OK)
	want(t, "clocks", clocks, api.OK, []int{700, 1000}, api.OK)
}

// TestP2Spare (R3) has arguments with room behind their ends: it stays as it is.
func TestP2Spare(t *testing.T) {
	room := []int{1200, 0, 55, 55}
	l := ticks(room[:2]...)
	l.Ticks = room[:2]
	for _, result := range []func() (api.DelayLaw, api.Errno){
		func() (api.DelayLaw, api.Errno) { return law.Without(l, []int{1}) },
		func() (api.DelayLaw, api.Errno) { return law.Normalised(l) },
		func() (api.DelayLaw, api.Errno) { return law.Added(l, l) },
		func() (api.DelayLaw, api.Errno) { return law.Recast(l, 700) },
	} {
		got, _ := result()
		_ = append(got.Ticks, 66)
		if !slices.Equal(room, []int{1200, 0, 55, 55}) {
			t.Fatalf("the room behind a law: %v", room)
		}
	}
}
