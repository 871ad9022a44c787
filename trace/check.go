package trace

import (
	"math"

	"couplant/api"
	"couplant/base"
)

// lastAnalytic is the number of the last analytic sample.
const lastAnalytic = api.AnalyticEnd - 1

// CheckTrace accepts a trace, or returns the number of its first wrong sample, and the error.
func CheckTrace(t api.Trace) (int, api.Errno) { return samplesError(t[:]) }

// CheckMatrix accepts a full matrix, or returns the number of the first wrong sample of its buffer, and the error.
func CheckMatrix(m api.FullMatrix) (int, api.Errno) {
	if e := base.RangeError(m.Elements, 1, api.MaxElements); e != api.OK {
		return 0, e
	}
	if len(m.Buffer) != m.Elements*m.Elements*api.TraceSize {
		return 0, api.ErrShape
	}
	return samplesError(m.Buffer)
}

// samplesError is the number of the first wrong sample, and its error.
func samplesError(samples []float32) (int, api.Errno) {
	for n, sample := range samples {
		if e := sampleError(float64(sample)); e != api.OK {
			return n, e
		}
	}
	return 0, api.OK
}

// sampleError is the error of a sample.
func sampleError(sample float64) api.Errno {
	switch {
	case !base.IsWhole(sample):
		return api.ErrWhole
	case math.Abs(sample) > api.MaxSample:
		return api.ErrRange
	}
	return api.OK
}

// traceError is the error of CheckTrace alone.
func traceError(t api.Trace) api.Errno {
	_, e := CheckTrace(t)
	return e
}

// matrixError is the error of CheckMatrix alone.
func matrixError(m api.FullMatrix) api.Errno {
	_, e := CheckMatrix(m)
	return e
}

// gateError is the error of a gate.
func gateError(g api.TraceGate) api.Errno {
	return base.FirstOf(
		base.RangeError(g.From, 0, lastAnalytic),
		base.RangeError(g.To, 0, lastAnalytic),
		base.Unless(g.From <= g.To, api.ErrOrder),
	)
}
