package trace

import (
	"couplant/api"
	"couplant/base"
)

// Added returns the trace of sums.
func Added(a, b api.Trace) (api.Trace, api.Errno) {
	if e := base.FirstOf(traceError(a), traceError(b)); e != api.OK {
		return api.Trace{}, e
	}
	sum := traceWith(func(n int) int { return int(a[n]) + int(b[n]) })
	if loudest(sum) > api.MaxSample {
		return api.Trace{}, api.ErrLarge
	}
	return sum, api.OK
}

// Shifted returns a trace whose samples come later by a number of samples.
func Shifted(t api.Trace, by int) (api.Trace, api.Errno) {
	e := base.FirstOf(traceError(t), base.RangeError(by, -api.TraceSize, api.TraceSize))
	if e != api.OK {
		return api.Trace{}, e
	}
	return traceWith(func(n int) int {
		if !isSample(n - by) {
			return 0
		}
		return int(t[n-by])
	}), api.OK
}

// Gained returns a trace times a gain, and how many of its samples were cut.
func Gained(t api.Trace, gain api.Frac) (api.Trace, int, api.Errno) {
	if e := base.FirstOf(traceError(t), gainError(gain)); e != api.OK {
		return api.Trace{}, 0, e
	}
	cuts := 0
	gained := traceWith(func(n int) int {
		whole := base.Rounded(int(t[n])*gain.Num, gain.Den)
		cut := min(max(whole, -api.MaxSample), api.MaxSample)
		if cut != whole {
			cuts++
		}
		return cut
	})
	return gained, cuts, api.OK
}

// LagOf returns by how many samples the second trace is behind the first one where both are most alike.
func LagOf(a, b api.Trace, most int) (int, api.Errno) {
	e := base.FirstOf(traceError(a), traceError(b), base.RangeError(most, 0, api.MaxLag))
	if e != api.OK {
		return 0, e
	}
	best, greatest := 0, likeness(a, b, 0)
	for size := 1; size <= most; size++ {
		for _, lag := range [2]int{-size, size} {
			if sum := likeness(a, b, lag); sum > greatest {
				best, greatest = lag, sum
			}
		}
	}
	return best, api.OK
}

// gainError is the error of a gain.
func gainError(gain api.Frac) api.Errno {
	return base.FirstOf(
		base.FormError(gain),
		base.RangeError(gain.Num, 0, api.MaxGain),
		base.RangeError(gain.Den, 1, api.MaxGain),
	)
}

// isSample tells whether a trace has a sample of this number.
func isSample(n int) bool { return base.Within(n, 0, api.TraceSize-1) }

// likeness is the sum of the products of the samples of two traces, those of the second one taken later by a lag.
func likeness(a, b api.Trace, lag int) int {
	sum := 0
	for n := range a {
		if isSample(n + lag) {
			sum += int(a[n]) * int(b[n+lag])
		}
	}
	return sum
}

// traceWith is the trace with samples that are told; made from whole numbers, none of them is -0.
func traceWith(sampleAt func(n int) int) api.Trace {
	var t api.Trace
	for n := range t {
		t[n] = float32(sampleAt(n))
	}
	return t
}

// cleared is a right trace with 0 where it has -0.
func cleared(t api.Trace) api.Trace {
	return traceWith(func(n int) int { return int(t[n]) })
}

// difference is the trace of differences, which may be greater than samples are.
func difference(a, b api.Trace) api.Trace {
	return traceWith(func(n int) int { return int(a[n]) - int(b[n]) })
}

// loudest is the greatest size of a sample.
func loudest(t api.Trace) int {
	size := 0
	for _, sample := range t {
		size = max(size, base.Size(int(sample)))
	}
	return size
}
