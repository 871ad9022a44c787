package trace_test

import (
	"testing"

	"couplant/api"
	"couplant/trace"
)

// wave is the trace 1, 2, -1, -2, 1, 2, ..
func wave() api.Trace {
	var t api.Trace
	for n := range t {
		t[n] = []float32{1, 2, -1, -2}[n%4]
	}
	return t
}

func TestP3_5Analytic(t *testing.T) {
	right := [61]complex64{7: -100i, 8: -100, 9: 100i, 10: 100}
	got, e := trace.Analytic(spike(10, 100))
	want(t, "Analytic of a spike", got, e, right, api.OK)
	for _, x := range []api.Trace{level(minus()), spike(10, minus()), {0, minus(), minus(), 0, 0, minus(), minus()}} {
		got, e = trace.Analytic(x)
		want(t, "Analytic of -0", got, e, [61]complex64{}, api.OK)
	}
	got, e = trace.Analytic(spike(63, 2047))
	want(t, "Analytic of the last sample", got, e, [61]complex64{60: -2047i}, api.OK)
	got, e = trace.Analytic(spike(0, -2047))
	want(t, "Analytic of the first sample", got, e, [61]complex64{0: -2047}, api.OK)
	got, e = trace.Analytic(wave())
	wantError(t, "Analytic of a wave", e, api.OK)
	want(t, "the first one of a wave", got[0], e, 2+4i, api.OK)
	want(t, "the second one of a wave", got[1], e, 4-2i, api.OK)
}

func TestP3_5Envelope(t *testing.T) {
	right := [61]int{7: 10000, 8: 10000, 9: 10000, 10: 10000}
	got, e := trace.Envelope(spike(10, 100))
	want(t, "Envelope of a spike", got, e, right, api.OK)
	got, e = trace.Envelope(wave())
	for n, square := range got {
		if square != 20 {
			t.Errorf("the square of a wave at %d: %d", n, square)
		}
	}
	// Both parts at their greatest: more than a float32 holds exactly.
	loud := api.Trace{2047, -2047, -2047, 2047}
	got, e = trace.Envelope(loud)
	want(t, "the greatest square", got[0], e, 2*4094*4094, api.OK)
	loud[2] = -2046
	got, e = trace.Envelope(loud)
	want(t, "an odd square", got[0], e, 4093*4093+4094*4094, api.OK)
	got, e = trace.Envelope(level(2047))
	want(t, "Envelope of a level", got, e, [61]int{}, api.OK)
}

// TestP3_5Definition holds analytic samples, squares, peaks and first numbers against the definitions.
func TestP3_5Definition(t *testing.T) {
	d := newDice(10)
	for range 500 {
		size := []int{1, 50, api.MaxSample}[d.IntN(3)]
		x := d.trace(size)
		var right [61]int
		samples, e := trace.Analytic(x)
		for n := range right {
			across, up := int(x[n])-int(x[n+2]), int(x[n+1])-int(x[n+3])
			want(t, "an analytic sample", samples[n], e, complex(float32(across), float32(up)), api.OK)
			right[n] = across*across + up*up
		}
		squares, e := trace.Envelope(x)
		want(t, "Envelope", squares, e, right, api.OK)
		g := api.TraceGate{From: d.from(0, 60)}
		g.To = d.from(g.From, 60)
		peak := api.TracePeak{At: g.From, Square: right[g.From]}
		for n := g.From; n <= g.To; n++ {
			if right[n] > peak.Square {
				peak = api.TracePeak{At: n, Square: right[n]}
			}
		}
		got, e := trace.PeakIn(x, g)
		want(t, "PeakIn", got, e, peak, api.OK)
		least := d.from(0, 4*size*size)
		first, f := 0, api.ErrNone
		for n := g.To; n >= g.From; n-- {
			if right[n] >= least {
				first, f = n, api.OK
			}
		}
		n, e := trace.FirstAbove(x, g, least)
		want(t, "FirstAbove", n, e, first, f)
	}
}

func TestP3_5PeakIn(t *testing.T) {
	for _, x := range []struct {
		t     api.Trace
		g     api.TraceGate
		right api.TracePeak
	}{
		{spike(10, 100), api.TraceGate{To: 60}, api.TracePeak{At: 7, Square: 10000}},
		{spike(10, 100), api.TraceGate{From: 9, To: 60}, api.TracePeak{At: 9, Square: 10000}},
		{spike(10, 100), api.TraceGate{From: 11, To: 60}, api.TracePeak{At: 11}},
		{spike(10, 100), api.TraceGate{From: 0, To: 6}, api.TracePeak{}},
		{spike(10, 100), api.TraceGate{From: 10, To: 10}, api.TracePeak{At: 10, Square: 10000}},
		{spike(63, 100), api.TraceGate{From: 0, To: 60}, api.TracePeak{At: 60, Square: 10000}},
		{spike(63, 100), api.TraceGate{From: 60, To: 60}, api.TracePeak{At: 60, Square: 10000}},
		{spike(0, 100), api.TraceGate{}, api.TracePeak{Square: 10000}},
	} {
		got, e := trace.PeakIn(x.t, x.g)
		want(t, "PeakIn", got, e, x.right, api.OK)
	}
	for _, x := range wrongGates() {
		got, e := trace.PeakIn(spike(10, 100), x.g)
		want(t, "PeakIn of a wrong gate", got, e, api.TracePeak{}, x.right)
	}
}

func TestP3_5FirstAbove(t *testing.T) {
	for _, x := range []struct {
		g      api.TraceGate
		square int
		right  int
		e      api.Errno
	}{
		{api.TraceGate{From: 9, To: 60}, 10000, 9, api.OK},
		{api.TraceGate{From: 9, To: 60}, 10001, 0, api.ErrNone},
		{api.TraceGate{From: 0, To: 60}, 1, 7, api.OK},
		{api.TraceGate{From: 0, To: 60}, 0, 0, api.OK},
		{api.TraceGate{From: 11, To: 60}, 0, 11, api.OK},
		{api.TraceGate{From: 11, To: 60}, 1, 0, api.ErrNone},
		{api.TraceGate{From: 0, To: 6}, 1, 0, api.ErrNone},
		{api.TraceGate{From: 0, To: 7}, 1, 7, api.OK},
		{api.TraceGate{From: 60, To: 60}, 0, 60, api.OK},
		{api.TraceGate{From: 0, To: 60}, greatest, 0, api.ErrNone},
		{api.TraceGate{From: 0, To: 60}, -1, 0, api.ErrRange},
		{api.TraceGate{From: 0, To: 60}, smallest, 0, api.ErrRange},
	} {
		got, e := trace.FirstAbove(spike(10, 100), x.g, x.square)
		want(t, "FirstAbove", got, e, x.right, x.e)
	}
	for _, x := range wrongGates() {
		for _, square := range []int{-1, 0} {
			got, e := trace.FirstAbove(spike(10, 100), x.g, square)
			want(t, "FirstAbove of a wrong gate", got, e, 0, x.right)
		}
	}
}
