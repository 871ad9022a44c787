package law_test

import (
	"slices"
	"testing"

	"couplant/api"
	"couplant/law"
	"couplant/ray"
)

func TestP2_7Focus(t *testing.T) {
	d := newDice(9)
	met := 0
	for range 1000 {
		a, at := d.array()
		l, e := law.FocusLaw(a, at)
		if e == api.ErrLarge {
			continue
		}
		met++
		widest := 0
		for _, p := range a.Elements {
			time, _ := ray.LeastTime(a.Mode, p, at)
			widest = max(widest, time.Hi-time.Lo)
		}
		spread, e := law.Spread(a, l, at)
		if e != api.OK || spread.Hi > a.Clock+2*widest {
			t.Errorf("%v at %v: the spread %v, error %d; the clock %d, the widest enclosure %d", a, at, spread, e, a.Clock, widest)
		}
		var dead []int
		for n := range a.Elements {
			if d.from(0, 2) == 0 {
				dead = append(dead, n)
			}
		}
		fewer, _ := law.Without(l, dead)
		less, e := law.Spread(a, fewer, at)
		if len(dead) == len(a.Elements) {
			wantError(t, "Spread of none", e, api.ErrNone)
		} else if e != api.OK || less.Hi > spread.Hi {
			t.Errorf("%v without %v: the spread %v, error %d; with them %v", l, dead, less, e, spread)
		}
	}
	if met < 500 {
		t.Errorf("only %d laws of a focus", met)
	}
}

func TestP2_8Add(t *testing.T) {
	d := newDice(10)
	for range 1000 {
		a, at := d.array()
		l, other := d.law(len(a.Elements)), d.law(len(a.Elements))
		other.Clock = l.Clock
		sum, e := law.Added(l, other)
		wantError(t, "Added", e, api.OK)
		back, e := law.Added(other, l)
		want(t, "Added in the other order", back, e, sum, api.OK)
		for n, delay := range sum.Ticks {
			right := -1
			if l.Ticks[n] >= 0 && other.Ticks[n] >= 0 {
				right = l.Ticks[n] + other.Ticks[n]
			}
			want(t, "ticks of a sum", delay, api.OK, right, api.OK)
		}
		if !sends(l) {
			continue
		}
		spread, _ := law.Spread(a, l, at)
		alike := api.DelayLaw{Clock: l.Clock, Ticks: slices.Repeat([]int{d.from(0, 900000)}, len(l.Ticks))}
		later, e := law.Added(l, alike)
		wantError(t, "Added alike", e, api.OK)
		same, e := law.Spread(a, later, at)
		want(t, "Spread of what is added to alike", same, e, spread, api.OK)
		normal, e := law.Normalised(l)
		wantError(t, "Normalised", e, api.OK)
		same, e = law.Spread(a, normal, at)
		want(t, "Spread of what is normalised", same, e, spread, api.OK)
		again, e := law.Normalised(normal)
		want(t, "Normalised again", again, e, normal, api.OK)
		cast, e := law.Recast(l, l.Clock)
		want(t, "Recast to the same clock", cast, e, l, api.OK)
	}
}

func TestP2_9Loss(t *testing.T) {
	d := newDice(11)
	for range 2000 {
		period := d.from(1, []int{9, 1000, api.MaxPeriod / 2}[d.IntN(3)])
		spread := d.from(0, period)
		loss, _ := law.LossOf(spread, period)
		wider, _ := law.LossOf(spread+d.from(0, period), period)
		longer, _ := law.LossOf(spread, period+d.from(0, period))
		if wider < loss || longer > loss {
			t.Errorf("the loss by %d with %d: %d; by a greater spread %d, with a longer period %d", spread, period, loss, wider, longer)
		}
		nothing, e := law.LossOf(0, period)
		want(t, "LossOf 0", nothing, e, 0, api.OK)
	}
}

func TestP2_10Lobes(t *testing.T) {
	d := newDice(12)
	var turns []api.LawTurn
	for r := 1; r <= 100; r++ {
		for p := -r; p <= r; p++ {
			for q := 1; q <= r; q++ {
				if p*p+q*q == r*r {
					turns = append(turns, api.LawTurn{P: p, Q: q, R: r})
				}
			}
		}
	}
	for range 200 {
		x := api.LawPitch{Pitch: d.from(1, 200), Speed: d.from(500, 10000), Kilohertz: d.from(1000, 9000)}
		steepest, e := law.SteepestFree(x)
		for _, turn := range turns {
			x.Turn = turn
			right := e == api.OK && max(turn.P, -turn.P)*steepest.Den <= steepest.Num*turn.R
			free, f := law.GratingFree(x)
			want(t, "GratingFree", free, f, right, api.OK)
		}
	}
}

func TestP2_10Texts(t *testing.T) {
	d := newDice(13)
	for range 2000 {
		l := d.law(d.from(1, api.MaxElements))
		l.Clock = d.from(1, api.MaxClock)
		back, e := law.ParseLaw(law.FormatLaw(l))
		want(t, "ParseLaw of FormatLaw", back, e, l, api.OK)
	}
}
