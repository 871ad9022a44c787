package tune_test

import (
	"slices"
	"strings"
	"testing"

	"couplant/api"
	"couplant/tune"
)

// step is a step with a name of one letter that is fit for its number, and what it needs.
func step(n, lasts, warm int, needs ...int) api.TuneStep {
	return api.TuneStep{Name: "abcdefghijk"[n : n+1], Lasts: lasts, Warm: warm, Needs: needs}
}

// pair is the steps of the chapter's examples, done their events.
func pair() []api.TuneStep { return []api.TuneStep{step(0, 100, 50), step(1, 50, 50, 0)} }
func done() []api.TuneEvent {
	return []api.TuneEvent{{Minute: 0, Step: 0, Warmth: 200}, {Minute: 10, Step: 1, Warmth: 210}}
}

// chain is steps each of which needs the one before alone.
func chain(count int) []api.TuneStep {
	l := []api.TuneStep{step(0, 1000, 100)}
	for n := 1; n < count; n++ {
		l = append(l, step(n, 1000, 100, n-1))
	}
	return l
}

// event is an event at a minute.
func event(minute, step, warmth int) api.TuneEvent {
	return api.TuneEvent{Minute: minute, Step: step, Warmth: warmth}
}

// wrongSteps is steps with the number and the error that CheckSteps returns.
type wrongSteps struct {
	l     []api.TuneStep
	n     int
	right api.Errno
}

func allWrongSteps() []wrongSteps {
	named := func(names ...string) []api.TuneStep {
		var l []api.TuneStep
		for _, name := range names {
			l = append(l, api.TuneStep{Name: name, Lasts: 1})
		}
		return l
	}
	l := []wrongSteps{
		{nil, 0, api.ErrShape}, {[]api.TuneStep{}, 0, api.ErrShape}, {chain(11), 0, api.ErrLarge}, {make([]api.TuneStep, 11), 0, api.ErrLarge},
		{named("a", "b", "a"), 2, api.ErrExists}, {named("a", "a", "5"), 1, api.ErrExists}, {[]api.TuneStep{step(0, 1, 0), step(0, 0, 0)}, 1, api.ErrExists},
		{[]api.TuneStep{step(0, 1, 0), {Name: "", Lasts: 0}}, 1, api.ErrName},
		{[]api.TuneStep{step(0, 1, 0, 0)}, 0, api.ErrMissing}, {[]api.TuneStep{step(0, 1, 0), step(1, 1, 0, 1)}, 1, api.ErrMissing}, {[]api.TuneStep{step(0, 1, 0), step(1, 1, 0, 0, 2), {}}, 1, api.ErrMissing},
		{[]api.TuneStep{step(0, 1, 0), step(1, 1, 0, -1)}, 1, api.ErrMissing}, {[]api.TuneStep{step(0, 1, 0), step(1, 1, 0, smallest)}, 1, api.ErrMissing}, {[]api.TuneStep{step(0, 1, 0), step(1, 1, 0, greatest)}, 1, api.ErrMissing},
		{[]api.TuneStep{step(0, 1, 0), step(1, 1, 0, 0, 0, 1)}, 1, api.ErrOrder}, {[]api.TuneStep{step(0, 1, 0), step(1, 1, 0), step(2, 1, 0, 1, 0, 2)}, 2, api.ErrOrder},
		{[]api.TuneStep{step(0, 1, 0), step(1, 1, 0, 0, 1, 1)}, 1, api.ErrMissing}, {[]api.TuneStep{step(0, 1, 0), step(1, 1, 0, 0, -1)}, 1, api.ErrMissing},
		{[]api.TuneStep{step(0, 0, 0, 0)}, 0, api.ErrRange}, {[]api.TuneStep{step(0, 1, -1, 0)}, 0, api.ErrRange},
	}
	for _, name := range []string{"", "5a", "-a", "a b", "a_b", "abcdefghijklm", "ä", "a\n", " a", "a.", "@", "[", "`", "{", "a/", "a:", "\xff"} {
		l = append(l, wrongSteps{named("a", name), 1, api.ErrName}, wrongSteps{named(name, "5"), 0, api.ErrName})
	}
	for _, lasts := range []int{0, -1, 1000001, smallest, greatest} {
		l = append(l, wrongSteps{[]api.TuneStep{step(0, 1, 0), step(1, lasts, 0)}, 1, api.ErrRange})
	}
	for _, warm := range []int{-1, 2001, smallest, greatest} {
		l = append(l, wrongSteps{[]api.TuneStep{step(0, 1, 0), step(1, 1, warm)}, 1, api.ErrRange})
	}
	return l
}

// wrongEvents is events of the steps of pair with the number and the error that CheckEvents returns.
type wrongEvents struct {
	l     []api.TuneEvent
	n     int
	right api.Errno
}

func allWrongEvents() []wrongEvents {
	l := []wrongEvents{
		{make([]api.TuneEvent, 61), 0, api.ErrLarge}, {slices.Repeat([]api.TuneEvent{event(-1, 5, 3000)}, 61), 0, api.ErrLarge},
		{[]api.TuneEvent{event(0, 0, 0), event(0, 2, 0)}, 1, api.ErrMissing}, {[]api.TuneEvent{event(0, -2, 0)}, 0, api.ErrMissing},
		{[]api.TuneEvent{event(0, smallest, 0)}, 0, api.ErrMissing}, {[]api.TuneEvent{event(0, greatest, 0)}, 0, api.ErrMissing},
		{[]api.TuneEvent{event(5, -1, 0), event(4, -1, 0)}, 1, api.ErrOrder}, {[]api.TuneEvent{event(5, -1, 0), event(7, -1, 0), event(6, -1, 0), event(-1, -1, 0)}, 2, api.ErrOrder},
		{[]api.TuneEvent{event(0, 1, 0)}, 0, api.ErrState}, {[]api.TuneEvent{event(0, -1, 0), event(0, 1, 0), event(-1, 0, 0)}, 1, api.ErrState},
		// The step that is needed has expired, or was ended by the temperature, also by that of the event.
		{[]api.TuneEvent{event(5, 0, 0), event(106, 1, 0)}, 1, api.ErrState}, {[]api.TuneEvent{event(5, 0, 0), event(6, -1, 51), event(7, 1, 0)}, 2, api.ErrState},
		{[]api.TuneEvent{event(0, 0, 200), event(0, 1, 251)}, 1, api.ErrState}, {[]api.TuneEvent{event(0, 0, 200), event(0, 1, 149)}, 1, api.ErrState},
		// Of one event they come in this order.
		{[]api.TuneEvent{event(-1, 5, 3000)}, 0, api.ErrRange}, {[]api.TuneEvent{event(5, -1, 0), event(4, 5, 3000)}, 1, api.ErrMissing},
		{[]api.TuneEvent{event(5, -1, 0), event(4, -1, 3000)}, 1, api.ErrRange}, {[]api.TuneEvent{event(5, -1, 0), event(4, 1, 0)}, 1, api.ErrOrder},
	}
	for _, minute := range []int{-1, 100000001, smallest, greatest} {
		l = append(l, wrongEvents{[]api.TuneEvent{event(0, 0, 0), event(minute, -1, 0)}, 1, api.ErrRange}, wrongEvents{[]api.TuneEvent{event(minute, 0, 0)}, 0, api.ErrRange})
	}
	for _, warmth := range []int{-2001, 2001, smallest, greatest} {
		l = append(l, wrongEvents{[]api.TuneEvent{event(0, 0, 0), event(1, -1, warmth)}, 1, api.ErrRange}, wrongEvents{[]api.TuneEvent{event(0, 0, warmth)}, 0, api.ErrRange})
	}
	return l
}

// lastOf is the number of the last event of a step, or -1.
func lastOf(events []api.TuneEvent, step int) int {
	last := -1
	for n, x := range events {
		if x.Step == step {
			last = n
		}
	}
	return last
}

// isStill tells whether a step is kept behind events, as the chapter defines it.
func isStill(l []api.TuneStep, events []api.TuneEvent, step int) bool {
	last := lastOf(events, step)
	if last < 0 {
		return false
	}
	for _, x := range events[last+1:] {
		off := x.Warmth - events[last].Warmth
		if off > l[step].Warm || off < -l[step].Warm || slices.Contains(l[step].Needs, x.Step) {
			return false
		}
	}
	return true
}

// isValid tells whether a step is valid at a minute behind events, as the chapter defines it.
func isValid(l []api.TuneStep, events []api.TuneEvent, step, minute int) bool {
	return isStill(l, events, step) &&
		minute <= events[lastOf(events, step)].Minute+l[step].Lasts &&
		!slices.ContainsFunc(l[step].Needs, func(need int) bool { return !isValid(l, events, need, minute) })
}

// mayBe tells whether an event may follow others: what it needs is valid.
func mayBe(l []api.TuneStep, events []api.TuneEvent, x api.TuneEvent) bool {
	read := append(slices.Clone(events), event(x.Minute, -1, x.Warmth))
	return x.Step < 0 || !slices.ContainsFunc(l[x.Step].Needs, func(need int) bool { return !isValid(l, read, need, x.Minute) })
}

// steps rolls steps of a procedure.
func (d dice) steps() []api.TuneStep {
	var l []api.TuneStep
	for n := range d.from(1, 5) {
		s := step(n, d.from(1, 40), d.from(0, 30))
		for need := range n {
			if d.from(0, 2) == 0 {
				s.Needs = append(s.Needs, need)
			}
		}
		l = append(l, s)
	}
	return l
}

// events rolls events; those that may not be are left out.
func (d dice) events(l []api.TuneStep) []api.TuneEvent {
	var events []api.TuneEvent
	minute, spread := d.from(0, 3), []int{0, 20, 60}[d.IntN(3)]
	for range d.from(0, 20) {
		x := event(minute, d.from(-1, len(l)-1), d.from(-spread, spread))
		if mayBe(l, events, x) {
			events = append(events, x)
			minute += max(0, d.from(-3, 9))
		}
	}
	return events
}

// minuteOf is the minute of the last event.
func minuteOf(events []api.TuneEvent) int {
	if len(events) == 0 {
		return 0
	}
	return events[len(events)-1].Minute
}

func TestP6_5CheckSteps(t *testing.T) {
	wide := []api.TuneStep{{Name: "A", Lasts: 1}, {Name: "a", Lasts: 1000000, Warm: 2000, Needs: []int{0}}, {Name: "Zz-09azAZ-y-", Lasts: 1, Needs: []int{0, 1}}, {Name: "z", Lasts: 1, Needs: []int{1}}}
	for _, l := range [][]api.TuneStep{pair(), chain(1), chain(10), wide} {
		n, e := tune.CheckSteps(l)
		want(t, "CheckSteps of "+shown(l), n, e, 0, api.OK)
	}
	for _, x := range allWrongSteps() {
		n, e := tune.CheckSteps(x.l)
		want(t, "CheckSteps of "+shown(x.l), n, e, x.n, x.right)
	}
}

func TestP6_5CheckEvents(t *testing.T) {
	for _, l := range [][]api.TuneEvent{
		nil, {}, done(), slices.Repeat([]api.TuneEvent{event(7, -1, 0)}, 60), {event(100000000, 0, 2000), event(100000000, 1, 1950)}, {event(0, -1, -2000), event(0, -1, 2000)},
		{event(0, 0, 200), event(0, 1, 250)}, {event(0, 0, 200), event(0, 1, 150)}, {event(5, 0, 0), event(105, 1, 0)}, {event(5, 0, 0), event(6, -1, 51), event(7, 0, 0), event(8, 1, 0)},
		// A step may be done again at any temperature.
		{event(0, 0, 0), event(1, 0, 100), event(1, 1, 100)}, {event(0, 0, 0), event(1, 1, 0), event(2, 1, 50)},
	} {
		n, e := tune.CheckEvents(pair(), l)
		want(t, "CheckEvents of "+shown(l), n, e, 0, api.OK)
	}
	for _, x := range allWrongEvents() {
		n, e := tune.CheckEvents(pair(), x.l)
		want(t, "CheckEvents of "+shown(x.l), n, e, x.n, x.right)
		for _, y := range allWrongSteps() {
			n, e := tune.CheckEvents(y.l, x.l)
			want(t, "CheckEvents of "+shown(y.l), n, e, 0, y.right)
		}
	}
}

// TestP6_5CheckEventsDefinition lets events follow right ones that may be or not.
func TestP6_5CheckEventsDefinition(t *testing.T) {
	d := newDice(9)
	wrong := 0
	for range 3000 {
		l := d.steps()
		events := d.events(l)
		n, e := tune.CheckEvents(l, events)
		want(t, "CheckEvents", n, e, 0, api.OK)
		x := event(minuteOf(events)+d.from(0, 20), d.from(-1, len(l)-1), d.from(-40, 40))
		n, e = tune.CheckEvents(l, append(events, x, event(-1, 0, 0)))
		if mayBe(l, events, x) {
			want(t, "CheckEvents of one more", n, e, len(events)+1, api.ErrRange)
		} else {
			want(t, "CheckEvents of one that may not be", n, e, len(events), api.ErrState)
			wrong++
		}
	}
	if wrong < 300 {
		t.Error("too few events may not be:", wrong)
	}
}

func TestP6_6ValidAt(t *testing.T) {
	warm := append(done(), event(20, -1, 251))
	for _, x := range []struct {
		l      []api.TuneStep
		events []api.TuneEvent
		minute int
		right  string // the valid steps
	}{
		{pair(), done(), 10, "01"}, {pair(), done(), 60, "01"}, {pair(), done(), 61, "0"}, {pair(), done(), 100, "0"}, {pair(), done(), 101, ""}, {pair(), done(), 100000000, ""},
		{pair(), warm, 20, ""}, {pair(), append(done(), event(20, -1, 250)), 20, "01"}, {pair(), append(done(), event(20, -1, 160)), 20, "01"}, {pair(), append(done(), event(20, -1, 159)), 20, "0"}, {pair(), append(done(), event(20, -1, 149)), 20, ""},
		{pair(), nil, 0, ""}, {pair(), nil, 100000000, ""}, {pair(), []api.TuneEvent{event(3, -1, 0)}, 3, ""},
		// What was done anew is valid, what needs it is not, until it is done anew as well.
		{pair(), append(done(), event(20, 0, 210)), 20, "0"}, {pair(), append(done(), event(20, 0, 210), event(20, 1, 210)), 70, "01"}, {pair(), append(warm, event(30, 0, 251)), 30, "0"},
		// A temperature between events does not count, nor does that of events ahead of the step's.
		{pair(), []api.TuneEvent{event(0, -1, -500), event(0, 0, 200)}, 0, "0"}, {pair(), []api.TuneEvent{event(0, 0, 0), event(1, -1, 60), event(2, -1, 0)}, 2, ""},
		// Its own temperature does not end a step, another one's does.
		{pair(), append(done(), event(20, 1, 250)), 20, "01"}, {pair(), append(done(), event(20, 1, 250), event(21, -1, 199)), 21, "0"}, {pair(), append(done(), event(20, 0, 900)), 20, "0"},
		// The step 2 needs 1 alone: that 0 is done anew leaves it kept, but not valid, also when 1 is done again.
		{chain(3), []api.TuneEvent{event(0, 0, 0), event(0, 1, 0), event(0, 2, 0)}, 0, "012"}, {chain(3), []api.TuneEvent{event(0, 0, 0), event(0, 1, 0), event(0, 2, 0), event(1, 0, 0)}, 1, "0"},
		{chain(3), []api.TuneEvent{event(0, 0, 0), event(0, 1, 0), event(0, 2, 0), event(1, 0, 0), event(1, 1, 0)}, 1, "01"},
		// A step of Warm 0 lasts while the temperature stays just the same.
		{[]api.TuneStep{step(0, 5, 0)}, []api.TuneEvent{event(0, 0, 7), event(1, -1, 7)}, 5, "0"}, {[]api.TuneStep{step(0, 5, 0)}, []api.TuneEvent{event(0, 0, 7), event(1, -1, 8)}, 1, ""}, {[]api.TuneStep{step(0, 5, 0)}, []api.TuneEvent{event(0, 0, 7), event(1, -1, 6)}, 1, ""},
	} {
		valid, e := tune.ValidAt(x.l, x.events, x.minute)
		var right []bool
		for n := range x.l {
			right = append(right, strings.Contains(x.right, "0123456789"[n:n+1]))
		}
		want(t, "ValidAt of "+shown(x.events)+" at "+shown(x.minute), valid, e, right, api.OK)
	}
}

func TestP6_6UntilOf(t *testing.T) {
	late := []api.TuneEvent{event(100000000, 0, 0)}
	for _, x := range []struct {
		l           []api.TuneStep
		events      []api.TuneEvent
		step, right int
		e           api.Errno
	}{
		{pair(), done(), 0, 100, api.OK}, {pair(), done(), 1, 60, api.OK}, {pair(), append(done(), event(60, -1, 210)), 1, 60, api.OK}, {pair(), append(done(), event(61, -1, 210)), 1, 0, api.ErrNone},
		{pair(), nil, 0, 0, api.ErrNone}, {pair(), nil, 1, 0, api.ErrNone}, {pair(), done()[:1], 1, 0, api.ErrNone}, {pair(), []api.TuneEvent{event(0, -1, 0)}, 0, 0, api.ErrNone},
		{pair(), append(done(), event(20, -1, 251)), 0, 0, api.ErrNone}, {pair(), append(done(), event(20, 0, 210)), 0, 120, api.OK}, {pair(), append(done(), event(20, 0, 210)), 1, 0, api.ErrNone},
		// What a step needs may expire ahead of it.
		{pair(), []api.TuneEvent{event(0, 0, 0), event(90, 1, 0)}, 1, 100, api.OK}, {pair(), []api.TuneEvent{event(0, 0, 0), event(90, 1, 0), event(101, -1, 0)}, 1, 0, api.ErrNone},
		// A minute that is told may be greater than those that are asked.
		{pair(), late, 0, 100000100, api.OK}, {[]api.TuneStep{step(0, 1000000, 0)}, late, 0, 101000000, api.OK},
	} {
		until, e := tune.UntilOf(x.l, x.events, x.step)
		want(t, "UntilOf of "+shown(x.events), until, e, x.right, x.e)
	}
}

func TestP6_6ToDo(t *testing.T) {
	for _, x := range []struct {
		l      []api.TuneStep
		events []api.TuneEvent
		minute int
		right  []int
	}{
		{pair(), append(done(), event(20, -1, 251)), 20, []int{0, 1}}, {pair(), append(done(), event(20, 0, 210)), 20, []int{1}}, {pair(), done(), 60, nil}, {pair(), done(), 61, []int{1}},
		{pair(), nil, 0, []int{0, 1}}, {chain(10), nil, 7, rising(10)}, {chain(3), []api.TuneEvent{event(0, 0, 0), event(0, 1, 0), event(0, 2, 0), event(1, 0, 0)}, 1, []int{1, 2}},
		{[]api.TuneStep{step(0, 5, 0), step(1, 9, 0), step(2, 5, 0)}, []api.TuneEvent{event(0, 1, 0)}, 9, []int{0, 2}},
	} {
		l, e := tune.ToDo(x.l, x.events, x.minute)
		want(t, "ToDo", l, e, x.right, api.OK)
	}
}

// TestP6_6Definition holds validity at many minutes against its definition.
func TestP6_6Definition(t *testing.T) {
	d := newDice(10)
	validities := map[bool]int{}
	for range 2000 {
		l := d.steps()
		events := d.events(l)
		now := minuteOf(events)
		for _, minute := range []int{now, now + d.from(0, 15), now + d.from(0, 50)} {
			var right []bool
			var toDo []int
			for n := range l {
				right = append(right, isValid(l, events, n, minute))
				validities[right[n]]++
				if !right[n] {
					toDo = append(toDo, n)
				}
			}
			valid, e := tune.ValidAt(l, events, minute)
			want(t, "ValidAt", valid, e, right, api.OK)
			numbers, e := tune.ToDo(l, events, minute)
			want(t, "ToDo", numbers, e, toDo, api.OK)
		}
		for n := range l {
			until := now
			for isValid(l, events, n, until) {
				until++
			}
			got, e := tune.UntilOf(l, events, n)
			if until == now {
				want(t, "UntilOf", got, e, 0, api.ErrNone)
			} else {
				want(t, "UntilOf", got, e, until-1, api.OK)
			}
		}
	}
	if validities[true] < 1000 || validities[false] < 1000 {
		t.Error("too few steps are valid, or are not:", validities)
	}
}

func TestP6_6Errors(t *testing.T) {
	wanted := func(l []api.TuneStep, events []api.TuneEvent, minute int, right api.Errno) {
		t.Helper()
		valid, e := tune.ValidAt(l, events, minute)
		want(t, "ValidAt", valid, e, nil, right)
		numbers, e := tune.ToDo(l, events, minute)
		want(t, "ToDo", numbers, e, nil, right)
	}
	wrongMinutes := []int{-1, 100000001, smallest, greatest}
	for _, x := range allWrongSteps() {
		wanted(x.l, done(), 10, x.right)
		wanted(x.l, make([]api.TuneEvent, 61), -1, x.right)
		until, e := tune.UntilOf(x.l, done(), 0)
		want(t, "UntilOf", until, e, 0, x.right)
		until, e = tune.UntilOf(x.l, make([]api.TuneEvent, 61), -1)
		want(t, "UntilOf", until, e, 0, x.right)
	}
	for _, x := range allWrongEvents() {
		wanted(pair(), x.l, 100000000, x.right)
		for _, minute := range wrongMinutes {
			wanted(pair(), x.l, minute, x.right)
		}
		for _, step := range []int{0, 1, 2, -1} {
			until, e := tune.UntilOf(pair(), x.l, step)
			want(t, "UntilOf", until, e, 0, x.right)
		}
	}
	for _, minute := range wrongMinutes {
		wanted(pair(), nil, minute, api.ErrRange)
		wanted(pair(), done(), minute, api.ErrRange)
	}
	wanted(pair(), done(), 9, api.ErrOrder)
	wanted(pair(), done(), 0, api.ErrOrder)
	for _, step := range []int{-1, 2, smallest, greatest} {
		for _, events := range [][]api.TuneEvent{nil, done()} {
			until, e := tune.UntilOf(pair(), events, step)
			want(t, "UntilOf of no step", until, e, 0, api.ErrMissing)
		}
	}
}
