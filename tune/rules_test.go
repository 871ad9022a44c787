package tune_test

import (
	"slices"
	"testing"

	"couplant/api"
	"couplant/tune"
)

// TestP6NoPanic (R2) calls all functions with numbers of all sizes.
func TestP6NoPanic(t *testing.T) {
	numbers := []int{smallest, smallest + 1, -api.MaxTime, -api.MaxTuneWarm, -2, -1, 0, 1, 2, 3, 10, 500, 1000, 1500, api.MaxTuneWarm, api.MaxPlace, api.MaxTuneEcho, api.MaxMinute, api.MaxTime, greatest - 1, greatest}
	d := newDice(15)
	roll := func() int { return numbers[d.IntN(len(numbers))] }
	span := func() api.Range { return ends(roll(), roll()) }
	list := func() []int {
		var l []int
		for range d.from(0, 17) {
			l = append(l, roll())
		}
		return l
	}
	for range 20000 {
		table, arcs, steps := d.table(4), d.arcs(), d.steps()
		events := d.events(steps)
		for _, change := range []func(){
			func() { table[d.IntN(len(table))] = api.TuneRow{Depth: roll(), Echo: roll()} },
			func() { table = nil },
			func() { arcs[d.IntN(len(arcs))] = api.TuneArc{Radius: roll(), Time: span()} },
			func() { arcs = arcs[:1] },
			func() { steps[d.IntN(len(steps))].Needs = list() },
			func() { steps[0].Lasts, steps[len(steps)-1].Warm = roll(), roll() },
			func() { steps = nil },
			func() { events = append(events, event(roll(), roll(), roll())) },
		} {
			if d.from(0, 9) == 0 {
				change()
			}
		}
		tune.CheckTable(table)
		tune.EchoAt(table, roll())
		tune.GainAt(table, roll(), roll())
		tune.Equalised(table, api.TuneRow{Depth: roll(), Echo: roll()}, roll())
		tune.Thinned(table, roll())
		tune.CheckArcs(arcs)
		tune.SpeedRange(arcs)
		tune.DelayRange(arcs)
		tune.Contradiction(arcs)
		tune.Explains(arcs, roll(), roll())
		tune.WearOf(span(), span(), span())
		tune.Uneven(list(), roll(), roll())
		tune.CheckSteps(steps)
		tune.CheckEvents(steps, events)
		tune.ValidAt(steps, events, roll())
		tune.UntilOf(steps, events, roll())
		tune.ToDo(steps, events, roll())
		tune.ParseEvent(tune.FormatEvent(event(roll(), roll(), roll())))
	}
}

// TestP6Memory (R3) writes into results, and behind them: arguments, and results of later calls, stay as they are.
func TestP6Memory(t *testing.T) {
	table, arcs, echoes := append(four(), api.TuneRow{})[:4], append(sharp(), api.TuneArc{})[:2], []int{100, 89, 112, 55}[:3]
	steps, events := append(pair(), step(9, 9, 9))[:2], append(done(), event(5, 5, 5))[:1]
	steps[1].Needs = []int{0, 55}[:1]
	spoil := func(l []int, e api.Errno) []int {
		numbers := slices.Clone(l)
		for n := range l {
			l[n] += 77
		}
		_ = append(l, 88)
		return numbers
	}
	for n, result := range []func() []int{
		func() []int { return spoil(tune.Thinned(table, 1)) },
		func() []int { return spoil(tune.Uneven(echoes, 100, 100)) },
		func() []int { return spoil(tune.ToDo(steps, events, 100)) },
		func() []int {
			valid, e := tune.ValidAt(steps, events, 100)
			want(t, "ValidAt", valid, e, []bool{true, false}, api.OK)
			valid[0], valid[1] = false, true
			_ = append(valid, true)
			return []int{1}
		},
	} {
		first := result()
		want(t, "a result again", result(), api.OK, first, api.OK)
		if len(first) == 0 || t.Failed() {
			t.Fatalf("the result %d is spoiled", n)
		}
	}
	tune.SpeedRange(arcs)
	tune.DelayRange(arcs)
	tune.Contradiction(arcs)
	tune.Explains(arcs, 0, 500)
	tune.CheckEvents(steps, events)
	tune.UntilOf(steps, events, 0)
	want(t, "the table", table[:5], api.OK, append(four(), api.TuneRow{}), api.OK)
	want(t, "the arcs", arcs[:3], api.OK, append(sharp(), api.TuneArc{}), api.OK)
	want(t, "the echoes", echoes[:4], api.OK, []int{100, 89, 112, 55}, api.OK)
	want(t, "the steps", steps[:3], api.OK, append(pair(), step(9, 9, 9)), api.OK)
	want(t, "what a step needs", steps[1].Needs[:2], api.OK, []int{0, 55}, api.OK)
	want(t, "the events", events[:3], api.OK, append(done(), event(5, 5, 5)), api.OK)
}
