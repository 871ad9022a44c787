package trace_test

import (
	"math"
	"slices"
	"testing"

	"couplant/api"
	"couplant/trace"
)

// TestP3NoPanic (R2) calls all functions with numbers of all sizes.
func TestP3NoPanic(t *testing.T) {
	numbers := []int{smallest, smallest + 1, -api.MaxTime, -65, -2, -1, 0, 1, 2, 16, 60, 64, 1000, api.MaxTime, greatest - 1, greatest}
	floats := []float32{float32(math.NaN()), float32(math.Inf(1)), float32(math.Inf(-1)), minus(), 0.5, 1e30, -2048, 2047, 1}
	d := newDice(25)
	roll := func() int { return numbers[d.IntN(len(numbers))] }
	rollTrace := func() api.Trace {
		x := d.trace(api.MaxSample)
		if d.from(0, 1) == 0 {
			x[d.IntN(64)] = floats[d.IntN(len(floats))]
		}
		return x
	}
	rollMatrix := func() api.FullMatrix {
		m := d.matrix(d.from(1, 2), api.MaxSample)
		switch d.from(0, 3) {
		case 0:
			m.Elements = roll()
		case 1:
			m.Buffer = m.Buffer[:d.IntN(len(m.Buffer))]
		case 2:
			m.Buffer[d.IntN(len(m.Buffer))] = floats[d.IntN(len(floats))]
		}
		return m
	}
	for range 5000 {
		a, b, m := rollTrace(), rollTrace(), rollMatrix()
		pair := [2]int{roll(), roll()}
		g, s := api.TraceGate{From: roll(), To: roll()}, api.Sampling{First: roll(), Step: roll()}
		trace.CheckTrace(a)
		trace.CheckMatrix(m)
		trace.TraceOf(m, pair)
		trace.With(m, pair, a)
		trace.Transposed(m)
		trace.Unlike(m, roll())
		trace.DeadElements(m, roll())
		trace.Saturated(m)
		trace.Averaged([]api.FullMatrix{m, rollMatrix()})
		trace.Added(a, b)
		trace.Shifted(a, roll())
		trace.Gained(a, api.Frac{Num: roll(), Den: roll()})
		trace.Analytic(a)
		trace.Envelope(a)
		trace.PeakIn(a, g)
		trace.FirstAbove(a, g, roll())
		trace.LagOf(a, b, roll())
		trace.CheckSampling(s)
		trace.TimeOf(s, roll())
		trace.Nearest(s, roll())
		trace.GateOf(s, api.Range{Lo: roll(), Hi: roll()})
		bytes, _ := trace.FormatFrame(api.TraceFrame{Position: roll(), Matrix: m})
		bytes = bytes[:d.IntN(len(bytes)+1)] + bytes[d.IntN(len(bytes)+1):]
		trace.ParseFrame(bytes)
		trace.Frames(bytes)
	}
}

// TestP3Memory (R3) writes into results, and behind them: arguments and other results stay as they are.
func TestP3Memory(t *testing.T) {
	d := newDice(26)
	m := d.matrix(2, api.MaxSample)
	room := slices.Concat(m.Buffer, []float32{55, 55})
	m.Buffer = room[:256]
	kept := slices.Clone(room)
	one, _ := trace.TraceOf(m, [2]int{0, 1})
	bytes := bytesOf(t, api.TraceFrame{Matrix: m})
	list := []api.FullMatrix{m, m}
	for n, result := range []func() (api.FullMatrix, api.Errno){
		func() (api.FullMatrix, api.Errno) { return trace.With(m, [2]int{0, 1}, one) },
		func() (api.FullMatrix, api.Errno) { return trace.Transposed(m) },
		func() (api.FullMatrix, api.Errno) { return trace.Averaged(list[:1]) },
		func() (api.FullMatrix, api.Errno) { return trace.Averaged(list) },
		func() (api.FullMatrix, api.Errno) {
			f, e := trace.ParseFrame(bytes)
			return f.Matrix, e
		},
	} {
		first, _ := result()
		right := slices.Clone(first.Buffer)
		for at := range first.Buffer {
			first.Buffer[at] = 77
		}
		_ = append(first.Buffer, 88)
		second, e := result()
		if e != api.OK || !slices.Equal(second.Buffer, right) || !slices.Equal(room, kept) {
			t.Errorf("the result %d shares memory, error %d", n, e)
		}
	}
	want(t, "the list of Averaged", len(list), api.OK, 2, api.OK)
}

// TestP3Lists (R3) appends to the lists of one result: the others stay as they are.
func TestP3Lists(t *testing.T) {
	s := bytesOf(t, frameOf(1, 5))
	frames, _, e := trace.Frames(s + s + s)
	for n := range frames {
		_ = append(frames[n].Matrix.Buffer, 99)
		frames[n].Matrix.Buffer[63] = float32(n)
	}
	for n := range frames {
		want(t, "a frame of Frames", frames[n].Matrix.Buffer[63], e, float32(n), api.OK)
		want(t, "its first sample", frames[n].Matrix.Buffer[0], e, 5, api.OK)
	}
}
