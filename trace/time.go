package trace

import (
	"couplant/api"
	"couplant/base"
)

// CheckSampling accepts a sampling.
func CheckSampling(s api.Sampling) api.Errno {
	return base.FirstOf(
		base.RangeError(s.First, 0, api.MaxTime),
		base.RangeError(s.Step, 1, api.MaxStep),
	)
}

// TimeOf returns the time of a sample.
func TimeOf(s api.Sampling, sample int) (int, api.Errno) {
	if e := base.FirstOf(CheckSampling(s), base.Unless(isSample(sample), api.ErrRange)); e != api.OK {
		return 0, e
	}
	return s.First + sample*s.Step, api.OK
}

// Nearest returns the sample whose time is nearest.
func Nearest(s api.Sampling, time int) (int, api.Errno) {
	if e := base.FirstOf(CheckSampling(s), base.RangeError(time, -api.MaxTime, api.MaxTime)); e != api.OK {
		return 0, e
	}
	sample := base.Rounded(time-s.First, s.Step)
	if !isSample(sample) {
		return 0, api.ErrNone
	}
	return sample, api.OK
}

// GateOf returns the gate of all analytic samples whose times are in a range.
func GateOf(s api.Sampling, times api.Range) (api.TraceGate, api.Errno) {
	e := base.FirstOf(
		CheckSampling(s),
		base.EndsError(times, -api.MaxTime, api.MaxTime),
	)
	if e != api.OK {
		return api.TraceGate{}, e
	}
	g := api.TraceGate{
		From: max(0, base.DividedUp(times.Lo-s.First, s.Step)),
		To:   min(lastAnalytic, base.DividedDown(times.Hi-s.First, s.Step)),
	}
	if g.From > g.To {
		return api.TraceGate{}, api.ErrNone
	}
	return g, api.OK
}
