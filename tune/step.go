package tune

import (
	"couplant/api"
	"couplant/base"
)

// CheckSteps accepts the steps of a procedure, or returns the number of a wrong one, and the error.
func CheckSteps(l []api.TuneStep) (int, api.Errno) {
	if e := base.LengthError(len(l), api.MaxTuneSteps); e != api.OK {
		return 0, e
	}
	return base.FirstIn(len(l), func(n int) api.Errno {
		return base.FirstOf(
			base.NameError(l[n].Name),
			base.ExistsError(l, n, nameOf),
			base.RangeError(l[n].Lasts, 1, api.MaxTuneLasts),
			base.RangeError(l[n].Warm, 0, api.MaxTuneWarm),
			base.NumbersError(l[n].Needs, n),
		)
	})
}

// CheckEvents accepts the events of a procedure, or returns the number of a wrong one, and the error.
func CheckEvents(l []api.TuneStep, events []api.TuneEvent) (int, api.Errno) {
	_, n, e := behind(l, events)
	return n, e
}

// ValidAt returns for each step whether it is valid at a minute.
func ValidAt(l []api.TuneStep, events []api.TuneEvent, minute int) ([]bool, api.Errno) {
	p, _, e := behind(l, events)
	e = base.FirstOf(
		e,
		base.RangeError(minute, 0, api.MaxMinute),
		base.Unless(minute >= lastMinute(events), api.ErrOrder),
	)
	if e != api.OK {
		return nil, e
	}
	var valid []bool
	for _, until := range p.untils() {
		valid = append(valid, minute <= until)
	}
	return valid, api.OK
}

// UntilOf returns the last minute at which a step is valid, if nothing more happens.
func UntilOf(l []api.TuneStep, events []api.TuneEvent, step int) (int, api.Errno) {
	p, _, e := behind(l, events)
	if e = base.FirstOf(e, base.MissingError(step, len(l))); e != api.OK {
		return 0, e
	}
	until := p.untils()[step]
	if until < lastMinute(events) {
		return 0, api.ErrNone
	}
	return until, api.OK
}

// ToDo returns the steps that are not valid at a minute.
func ToDo(l []api.TuneStep, events []api.TuneEvent, minute int) ([]int, api.Errno) {
	valid, e := ValidAt(l, events, minute)
	if e != api.OK {
		return nil, e
	}
	var numbers []int
	for n, isValid := range valid {
		if !isValid {
			numbers = append(numbers, n)
		}
	}
	return numbers, api.OK
}

// nameOf is the name of a step.
func nameOf(x api.TuneStep) string { return x.Name }

// lastMinute is the minute of the last event, or the first one of all.
func lastMinute(events []api.TuneEvent) int {
	if len(events) == 0 {
		return 0
	}
	return events[len(events)-1].Minute
}
