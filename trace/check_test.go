package trace_test

import (
	"testing"

	"couplant/api"
	"couplant/trace"
)

func TestP3_1CheckTrace(t *testing.T) {
	for _, right := range []api.Trace{{}, level(2047), level(-2047), level(minus()), spike(63, 1)} {
		n, e := trace.CheckTrace(right)
		want(t, "CheckTrace of a right trace", n, e, 0, api.OK)
	}
	for _, x := range wrongSamples() {
		for _, at := range []int{0, 9, 63} {
			n, e := trace.CheckTrace(spike(at, x.sample))
			want(t, "CheckTrace of a wrong trace", n, e, at, x.right)
		}
	}
	// The first wrong sample decides.
	two := spike(5, 2048)
	two[6] = 0.5
	n, e := trace.CheckTrace(two)
	want(t, "CheckTrace of a sample too great, then one not whole", n, e, 5, api.ErrRange)
	two[4] = 0.5
	n, e = trace.CheckTrace(two)
	want(t, "CheckTrace of a sample not whole, then one too great", n, e, 4, api.ErrWhole)
}

func TestP3_1CheckMatrix(t *testing.T) {
	d := newDice(1)
	for _, right := range []api.FullMatrix{silence(1), silence(16), d.matrix(3, api.MaxSample), spiked(2, [2]int{1, 1}, 63, minus())} {
		n, e := trace.CheckMatrix(right)
		want(t, "CheckMatrix of a right matrix", n, e, 0, api.OK)
	}
	for _, x := range wrongMatrices() {
		n, e := trace.CheckMatrix(x.m)
		want(t, "CheckMatrix of a wrong matrix", n, e, x.number, x.right)
	}
}

// TestP3Matrices holds all functions of a matrix to its errors, ahead of those of their other arguments.
func TestP3Matrices(t *testing.T) {
	wrong := spike(0, 0.5)
	for _, x := range wrongMatrices() {
		m := x.m
		taken, e := trace.TraceOf(m, [2]int{-1, 99})
		want(t, "TraceOf of a wrong matrix", taken, e, api.Trace{}, x.right)
		other, e := trace.With(m, [2]int{-1, 99}, wrong)
		want(t, "With of a wrong matrix", other, e, api.FullMatrix{}, x.right)
		other, e = trace.Transposed(m)
		want(t, "Transposed of a wrong matrix", other, e, api.FullMatrix{}, x.right)
		other, e = trace.Averaged([]api.FullMatrix{m})
		want(t, "Averaged of a wrong matrix", other, e, api.FullMatrix{}, x.right)
		pairs, e := trace.Unlike(m, -1)
		want(t, "Unlike of a wrong matrix", pairs, e, nil, x.right)
		pairs, e = trace.Saturated(m)
		want(t, "Saturated of a wrong matrix", pairs, e, nil, x.right)
		elements, e := trace.DeadElements(m, -1)
		want(t, "DeadElements of a wrong matrix", elements, e, nil, x.right)
		s, e := trace.FormatFrame(api.TraceFrame{Position: 5, Matrix: m})
		want(t, "FormatFrame of a wrong matrix", s, e, "", x.right)
	}
}

// TestP3Traces holds all functions of a trace to its errors, ahead of those of their other arguments.
func TestP3Traces(t *testing.T) {
	none, gate := api.Trace{}, api.TraceGate{From: -1, To: -1}
	for right, x := range wrongTraces() {
		for otherRight, other := range wrongTraces() {
			sum, e := trace.Added(x, other)
			want(t, "Added of wrong traces", sum, e, none, right)
			n, e := trace.LagOf(x, other, -1)
			want(t, "LagOf of wrong traces", n, e, 0, right)
			sum, e = trace.Added(level(2047), other)
			want(t, "Added of a wrong second trace", sum, e, none, otherRight)
			n, e = trace.LagOf(level(1), other, -1)
			want(t, "LagOf of a wrong second trace", n, e, 0, otherRight)
		}
		m, e := trace.With(silence(2), [2]int{1, 0}, x)
		want(t, "With a wrong trace", m, e, api.FullMatrix{}, right)
		shifted, e := trace.Shifted(x, 65)
		want(t, "Shifted of a wrong trace", shifted, e, none, right)
		gained, cuts, e := trace.Gained(x, api.Frac{})
		want(t, "Gained of a wrong trace", gained, e, none, right)
		want(t, "the cuts of a wrong trace", cuts, e, 0, right)
		samples, e := trace.Analytic(x)
		want(t, "Analytic of a wrong trace", samples, e, [61]complex64{}, right)
		squares, e := trace.Envelope(x)
		want(t, "Envelope of a wrong trace", squares, e, [61]int{}, right)
		peak, e := trace.PeakIn(x, gate)
		want(t, "PeakIn of a wrong trace", peak, e, api.TracePeak{}, right)
		n, e := trace.FirstAbove(x, gate, -1)
		want(t, "FirstAbove of a wrong trace", n, e, 0, right)
	}
}
