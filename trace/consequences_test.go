package trace_test

import (
	"testing"

	"couplant/api"
	"couplant/trace"
)

func TestP3_8Turned(t *testing.T) {
	d := newDice(20)
	for range 200 {
		m := d.matrix(d.from(1, 5), []int{1, 9, api.MaxSample}[d.IntN(3)])
		turned, _ := trace.Transposed(m)
		back, e := trace.Transposed(turned)
		want(t, "Transposed of Transposed", back, e, m, api.OK)
		noise := d.from(0, 18)
		pairs, _ := trace.Unlike(m, noise)
		same, e := trace.Unlike(turned, noise)
		want(t, "Unlike of Transposed", same, e, pairs, api.OK)
		most := 0
		for f := range m.Elements {
			for r := range m.Elements {
				here, there := part(m, [2]int{f, r}), part(m, [2]int{r, f})
				for n := range here {
					most = max(most, int(here[n]-there[n]))
				}
				taken, _ := trace.TraceOf(m, [2]int{f, r})
				again, e := trace.With(m, [2]int{f, r}, taken)
				want(t, "With of TraceOf", again, e, m, api.OK)
			}
		}
		pairs, e = trace.Unlike(m, most)
		want(t, "Unlike with the greatest difference as noise", pairs, e, nil, api.OK)
		pairs, e = trace.Unlike(m, max(0, most-1))
		want(t, "whether it is Unlike with less noise", len(pairs) > 0, e, most > 0, api.OK)
	}
}

func TestP3_9Analytic(t *testing.T) {
	d := newDice(21)
	for range 200 {
		a, b := d.trace(1000), d.trace(1000)
		sum, _ := trace.Added(a, b)
		ofA, _ := trace.Analytic(a)
		ofB, _ := trace.Analytic(b)
		ofSum, _ := trace.Analytic(sum)
		for n := range ofSum {
			want(t, "an analytic sample of a sum", ofSum[n], api.OK, ofA[n]+ofB[n], api.OK)
		}
		by := d.from(-60, 60)
		shifted, _ := trace.Shifted(a, by)
		ofShifted, _ := trace.Analytic(shifted)
		for n := max(0, by); n <= 60+min(0, by); n++ {
			want(t, "an analytic sample of a shifted trace", ofShifted[n], api.OK, ofA[n-by], api.OK)
		}
		even, odd := float32(d.from(-2047, 2047)), float32(d.from(-2047, 2047))
		var turning api.Trace
		for n := range turning {
			turning[n] = []float32{even, odd, -even, -odd}[n%4]
		}
		samples, _ := trace.Analytic(turning)
		squares, _ := trace.Envelope(turning)
		for n := range 60 {
			if samples[n+1] != -1i*samples[n] || squares[n+1] != squares[n] {
				t.Errorf("%v at %d: %v, then %v; squares %d, then %d", turning, n, samples[n], samples[n+1], squares[n], squares[n+1])
			}
		}
	}
}

func TestP3_10Lags(t *testing.T) {
	d := newDice(22)
	for range 1000 {
		var x api.Trace
		from := d.from(32, 63)
		to := d.from(from, 63)
		for n := from; n <= to; n++ {
			x[n] = float32(d.from(-9, 9))
		}
		x[from] = float32(d.from(1, 9))
		by := d.from(-32, 0)
		if d.from(0, 1) == 0 {
			x, _ = trace.Shifted(x, -32)
			by = -by
		}
		shifted, _ := trace.Shifted(x, by)
		lag, e := trace.LagOf(x, shifted, d.from(max(by, -by), api.MaxLag))
		want(t, "LagOf of a shifted trace", lag, e, by, api.OK)
		lag, e = trace.LagOf(shifted, x, api.MaxLag)
		want(t, "LagOf of a trace shifted back", lag, e, -by, api.OK)
	}
}

func TestP3_11Frames(t *testing.T) {
	d := newDice(23)
	for range 60 {
		var frames []api.TraceFrame
		var s string
		ends := []int{0}
		for range d.from(0, 3) {
			f := api.TraceFrame{Position: d.from(-api.MaxPart, api.MaxPart), Matrix: d.matrix(d.from(1, 2), api.MaxSample)}
			bytes := bytesOf(t, f)
			back, e := trace.ParseFrame(bytes)
			want(t, "ParseFrame of FormatFrame", back, e, f, api.OK)
			frames, s = append(frames, f), s+bytes
			ends = append(ends, len(s))
		}
		for cut := range len(s) + 1 {
			l, bytes, e := trace.Frames(s[:cut])
			whole := 0
			for whole < len(frames) && ends[whole+1] <= cut {
				whole++
			}
			if len(l) != whole || bytes != ends[whole] || e != api.OK {
				t.Fatalf("Frames cut at %d: %d frames, %d bytes, error %d; want %d and %d", cut, len(l), bytes, e, whole, ends[whole])
			}
			if cut == ends[whole] {
				want(t, "Frames", l, e, frames[:whole], api.OK)
			}
		}
	}
}

func TestP3_11Times(t *testing.T) {
	d := newDice(24)
	for range 300 {
		s := api.Sampling{First: d.from(0, api.MaxTime/2), Step: d.from(1, api.MaxStep)}
		for sample := range api.TraceSize {
			time, _ := trace.TimeOf(s, sample)
			nearest, e := trace.Nearest(s, time)
			want(t, "Nearest of TimeOf", nearest, e, sample, api.OK)
		}
	}
}
