package bench

import (
	"couplant/api"
	"couplant/base"
)

// samples is sums of the samples of a trace, whatever their size: a float would not hold all of them.
type samples [api.TraceSize]int

// Pulsed returns a trace that is 0, but for a pulse times an amplitude from a sample number on.
func Pulsed(pulse []int, amplitude, at int) (api.Trace, api.Errno) {
	e := base.FirstOf(
		pulseError(pulse),
		amplitudeError(amplitude),
		base.RangeError(at, -api.MaxTime, api.MaxTime),
	)
	if e != api.OK {
		return api.Trace{}, e
	}
	var sums samples
	sums.add(pulse, amplitude, at)
	return sums.trace(), api.OK
}

// add adds a pulse times an amplitude from a sample number on, as far as it lies in the trace.
func (l *samples) add(pulse []int, amplitude, at int) {
	for n, part := range pulse {
		if isSample(at + n) {
			l[at+n] += amplitude * part
		}
	}
}

// trace is the trace of the sums; made from whole numbers, none of its samples is -0.
func (l samples) trace() api.Trace {
	var t api.Trace
	for n, sum := range l {
		t[n] = float32(sum)
	}
	return t
}

// sizeError is the error of sums that are too large.
func (l samples) sizeError() api.Errno {
	_, e := base.FirstIn(len(l), func(n int) api.Errno { return loudError(l[n]) })
	return e
}

// loudError is the error of a sample that is too large.
func loudError(sample int) api.Errno {
	return base.Unless(base.Size(sample) <= api.MaxSample, api.ErrLarge)
}

// isSample tells whether a trace has a sample of this number.
func isSample(n int) bool { return base.Within(n, 0, api.TraceSize-1) }
