package trace

import (
	"slices"

	"couplant/api"
	"couplant/base"
)

// Analytic returns the analytic samples of a trace.
func Analytic(t api.Trace) ([api.AnalyticEnd]complex64, api.Errno) {
	var samples [api.AnalyticEnd]complex64
	if e := traceError(t); e != api.OK {
		return samples, e
	}
	t = cleared(t)
	for n := range samples {
		samples[n] = complex(t[n]-t[n+2], t[n+1]-t[n+3])
	}
	return samples, api.OK
}

// Envelope returns the squares of the analytic samples of a trace.
func Envelope(t api.Trace) ([api.AnalyticEnd]int, api.Errno) {
	var squares [api.AnalyticEnd]int
	samples, e := Analytic(t)
	if e != api.OK {
		return squares, e
	}
	for n, sample := range samples {
		// A float32 would not hold all squares.
		across, up := int(real(sample)), int(imag(sample))
		squares[n] = across*across + up*up
	}
	return squares, api.OK
}

// PeakIn returns where the square is greatest in a gate, and this square.
func PeakIn(t api.Trace, g api.TraceGate) (api.TracePeak, api.Errno) {
	squares, e := squaresIn(t, g)
	if e != api.OK {
		return api.TracePeak{}, e
	}
	greatest := slices.Max(squares)
	return api.TracePeak{At: g.From + slices.Index(squares, greatest), Square: greatest}, api.OK
}

// FirstAbove returns the first number of a gate at which the square is at least so much.
func FirstAbove(t api.Trace, g api.TraceGate, square int) (int, api.Errno) {
	squares, e := squaresIn(t, g)
	if e = base.FirstOf(e, base.Unless(square >= 0, api.ErrRange)); e != api.OK {
		return 0, e
	}
	first := slices.IndexFunc(squares, func(n int) bool { return n >= square })
	if first < 0 {
		return 0, api.ErrNone
	}
	return g.From + first, api.OK
}

// squaresIn is the squares of a trace in a gate.
func squaresIn(t api.Trace, g api.TraceGate) ([]int, api.Errno) {
	squares, e := Envelope(t)
	if e = base.FirstOf(e, gateError(g)); e != api.OK {
		return nil, e
	}
	return squares[g.From : g.To+1], api.OK
}
