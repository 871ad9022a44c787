package tune_test

import (
	"slices"
	"testing"

	"couplant/api"
	"couplant/tune"
)

// TestP6_8 looks at echoes of rows, echoes that are the table's, and tables that are thinned twice.
func TestP6_8(t *testing.T) {
	d := newDice(11)
	for range 500 {
		l := d.table(20)
		target := d.from(1, 1000000)
		for _, x := range l {
			r, e := tune.EchoAt(l, x.Depth)
			want(t, "EchoAt of a row", r, e, ends(x.Echo, x.Echo), api.OK)
			r, e = tune.Equalised(l, x, target)
			want(t, "Equalised of a row", r, e, ends(target, target), api.OK)
		}
		slack := d.from(0, []int{0, 3, 1000000}[d.IntN(3)])
		numbers, e := tune.Thinned(l, slack)
		want(t, "whether all rows are kept", isKept(l, numbers, slack), e, true, api.OK)
		var fewer []api.TuneRow
		for _, n := range numbers {
			fewer = append(fewer, l[n])
		}
		again, e := tune.Thinned(fewer, 0)
		want(t, "Thinned again", again, e, rising(len(fewer)), api.OK)
	}
}

// TestP6_9 looks for what explains arcs in their ranges, and for contradictions where there is nothing.
func TestP6_9(t *testing.T) {
	d := newDice(12)
	explained, contradicting := 0, 0
	for range 2000 {
		l := d.arcs()
		three, e := tune.Contradiction(l)
		delays, f := tune.DelayRange(l)
		want(t, "whether arcs contradict", e == api.OK, f, f == api.ErrNone, f)
		if e == api.OK {
			contradicting++
			_, e = tune.DelayRange([]api.TuneArc{l[three[0]], l[three[1]], l[three[2]]})
			want(t, "DelayRange of three that contradict", 0, e, 0, api.ErrNone)
			continue
		}
		speeds, e := tune.SpeedRange(l)
		if e != api.OK {
			continue
		}
		slow := min(max(500, speeds.Lo-1), 10000)
		for range 20 {
			delay, speed := d.from(delays.Lo-1, delays.Hi+1), d.from(slow, max(slow, min(10000, speeds.Hi+1)))
			ok, e := tune.Explains(l, delay, speed)
			if e == api.OK && ok {
				explained++
				want(t, "whether it lies in both ranges", delays.Lo <= delay && delay <= delays.Hi && speeds.Lo <= speed && speed <= speeds.Hi, e, true, api.OK)
			}
		}
	}
	if explained < 100 || contradicting < 100 {
		t.Error("too few arcs are explained, or contradict:", explained, contradicting)
	}
}

// TestP6_10 does what is to be done, and leaves a step of it out.
func TestP6_10(t *testing.T) {
	d := newDice(13)
	left := 0
	for range 2000 {
		l := d.steps()
		events := d.events(l)
		minute := minuteOf(events) + d.from(0, 30)
		warmth := 0
		if len(events) > 0 {
			warmth = events[len(events)-1].Warmth
		}
		valid, _ := tune.ValidAt(l, events, minute)
		later, _ := tune.ValidAt(l, events, minute+d.from(0, 30))
		for n, s := range l {
			if later[n] && !valid[n] {
				t.Error("valid again without an event:", n)
			}
			if valid[n] && slices.ContainsFunc(s.Needs, func(need int) bool { return !valid[need] }) {
				t.Error("valid without what it needs:", n)
			}
		}
		toDo, _ := tune.ToDo(l, events, minute)
		all := slices.Clone(events)
		for _, n := range toDo {
			all = append(all, event(minute, n, warmth))
		}
		rest, e := tune.ToDo(l, all, minute)
		want(t, "ToDo when all is done", rest, e, nil, api.OK)
		for n := range toDo {
			some := slices.Delete(slices.Clone(all), len(events)+n, len(events)+n+1)
			rest, e := tune.ToDo(l, some, minute)
			if e == api.OK && len(rest) == 0 {
				t.Error("a step may be left out:", toDo[n])
			}
			left++
		}
	}
	if left < 1000 {
		t.Error("too few steps are to be done:", left)
	}
}

// TestP6_11 parses texts of events.
func TestP6_11(t *testing.T) {
	d := newDice(14)
	roll := func() int {
		size := []int{9, 999999999}[d.IntN(2)]
		return d.from(-size, size)
	}
	for range 1000 {
		x := event(roll(), roll(), roll())
		got, e := tune.ParseEvent(tune.FormatEvent(x))
		want(t, "ParseEvent", got, e, x, api.OK)
	}
}
