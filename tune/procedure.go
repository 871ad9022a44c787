package tune

import (
	"slices"

	"couplant/api"
	"couplant/base"
)

const (
	reading = -1 // the step of an event that only reads the temperature
	never   = -1 // ahead of all minutes
)

// stage is a step, and what is kept of it.
type stage struct {
	step   api.TuneStep
	isKept bool
	last   api.TuneEvent // when it was done, if it is kept
}

// procedure is the stages of all steps behind some events.
type procedure []stage

// behind returns a procedure behind events, or the number of a wrong event, and the error.
func behind(l []api.TuneStep, events []api.TuneEvent) (procedure, int, api.Errno) {
	_, e := CheckSteps(l)
	if e = base.FirstOf(e, base.Unless(len(events) <= api.MaxTuneEvents, api.ErrLarge)); e != api.OK {
		return nil, 0, e
	}
	p := make(procedure, len(l))
	for n, step := range l {
		p[n].step = step
	}
	earliest := 0
	for n, x := range events {
		e := base.FirstOf(
			base.RangeError(x.Minute, 0, api.MaxMinute),
			base.Unless(base.Within(x.Step, reading, len(l)-1), api.ErrMissing),
			base.RangeError(x.Warmth, -api.MaxTuneWarm, api.MaxTuneWarm),
			base.Unless(x.Minute >= earliest, api.ErrOrder),
		)
		if e == api.OK {
			e = p.happen(x)
		}
		if e != api.OK {
			return nil, n, e
		}
		earliest = x.Minute
	}
	return p, 0, api.OK
}

// happen changes a procedure by an event; it is ErrState if the step may not be done.
func (p procedure) happen(x api.TuneEvent) api.Errno {
	// Its own temperature may end what a step needs before it is done.
	p.drop(func(s stage) bool { return base.Size(x.Warmth-s.last.Warmth) > s.step.Warm })
	if x.Step == reading {
		return api.OK
	}
	untils := p.untils()
	isMissing := func(need int) bool { return untils[need] < x.Minute }
	if slices.ContainsFunc(p[x.Step].step.Needs, isMissing) {
		return api.ErrState
	}
	p.drop(func(s stage) bool { return slices.Contains(s.step.Needs, x.Step) })
	p[x.Step].isKept, p[x.Step].last = true, x
	return api.OK
}

// drop keeps no stage for which a condition holds.
func (p procedure) drop(isOver func(s stage) bool) {
	for n, s := range p {
		p[n].isKept = s.isKept && !isOver(s)
	}
}

// untils is the last minute at which each step is valid if nothing more happens, or never.
func (p procedure) untils() []int {
	untils := make([]int, len(p))
	for n, s := range p {
		untils[n] = never
		if s.isKept {
			untils[n] = s.last.Minute + s.step.Lasts
		}
		for _, need := range s.step.Needs {
			untils[n] = min(untils[n], untils[need])
		}
	}
	return untils
}
