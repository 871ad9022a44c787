package bench_test

import (
	"slices"
	"testing"

	"couplant/api"
	"couplant/bench"
	"couplant/trace"
)

// TestP4_7Added takes a specimen apart, flaw by flaw, and turns it into the opposite one.
func TestP4_7Added(t *testing.T) {
	d := newDice(6)
	for range 300 {
		s := d.specimen()
		for flaw := range s.Flaws {
			rest, _ := bench.Without(s, flaw)
			alone := copied(s)
			alone.Flaws = s.Flaws[flaw : flaw+1]
			for _, pair := range allPairs(s.Array) {
				whole, e := bench.TraceOf(s, pair)
				a, _ := bench.TraceOf(rest, pair)
				b, _ := bench.TraceOf(alone, pair)
				sum, _ := trace.Added(a, b)
				want(t, "TraceOf the whole", whole, e, sum, api.OK)
			}
		}
		opposite := copied(s)
		for n := range opposite.Flaws {
			opposite.Flaws[n].Amplitude *= -1
			opposite.Flaws[n].Tip *= -1
		}
		m, _ := bench.MatrixOf(s)
		turned, e := bench.MatrixOf(opposite)
		for n := range m.Buffer {
			m.Buffer[n] = 0 - m.Buffer[n]
		}
		want(t, "MatrixOf the opposite", turned, e, m, api.OK)
	}
}

func TestP4_8Reciprocity(t *testing.T) {
	d := newDice(7)
	for range 300 {
		s := d.specimen()
		s.Array.Back = s.Array.Out
		m, e := bench.MatrixOf(s)
		turned, _ := trace.Transposed(m)
		want(t, "MatrixOf with one mode", m, e, turned, api.OK)
		for _, pair := range allPairs(s.Array) {
			here, _ := bench.TraceOf(s, pair)
			there, e := bench.TraceOf(s, [2]int{pair[1], pair[0]})
			want(t, "TraceOf the other way round", there, e, here, api.OK)
		}
		bytes, _ := trace.FormatFrame(api.TraceFrame{Matrix: m})
		f, e := trace.ParseFrame(bytes)
		want(t, "the matrix behind a frame", f.Matrix, e, m, api.OK)
	}
}

func TestP4_9Where(t *testing.T) {
	d := newDice(8)
	for range 300 {
		s := d.specimen()
		hole := d.flaw(s.Array.Out.Thick)
		hole = pore(hole.From.X, hole.From.Z, hole.Amplitude)
		s.Flaws = []api.BenchFlaw{hole}
		for _, pair := range allPairs(s.Array) {
			n, e := bench.EchoAt(s.Array, hole.From, pair)
			r, _ := bench.EchoRange(s.Array, hole.From, pair)
			want(t, "whether EchoAt lies in EchoRange", r.Lo <= n && n <= r.Hi, e, true, api.OK)
			at, _ := bench.SampleOf(s.Array, hole.From, pair)
			right, _ := bench.Pulsed(s.Pulse, hole.Amplitude, at)
			got, e := bench.TraceOf(s, pair)
			want(t, "TraceOf a pore", got, e, right, api.OK)
		}
	}
}

func TestP4_9Moved(t *testing.T) {
	d := newDice(9)
	for range 200 {
		s, by := d.specimen(), d.from(-5000, 5000)
		moved, _ := bench.Moved(s, by)
		for n := range moved.Array.Elements {
			moved.Array.Elements[n].X += by
		}
		right, _ := bench.MatrixOf(s)
		m, e := bench.MatrixOf(moved)
		want(t, "MatrixOf all moved alike", m, e, right, api.OK)
	}
}

func TestP4_10Noise(t *testing.T) {
	d := newDice(10)
	for range 200 {
		seed, size, length := d.from(0, 2147483647), d.from(0, 200), d.from(0, 200)
		short, _ := bench.Noise(seed, size, length)
		long, e := bench.Noise(seed, size, length+d.from(0, 50))
		want(t, "how longer Noise begins", long[:length], e, short, api.OK)
		if length > 0 && (slices.Min(long) < -size || slices.Max(long) > size) {
			t.Errorf("noise of the size %d: %v", size, long)
		}
	}
}

func TestP4_10Texts(t *testing.T) {
	d := newDice(11)
	for range 1000 {
		s := d.specimen()
		text, e := bench.Print(s)
		wantError(t, "Print", e, api.OK)
		wantParse(t, text, s, 0, api.OK)
		for _, f := range s.Flaws {
			back, e := bench.ParseFlaw(bench.FormatFlaw(f))
			want(t, "ParseFlaw of FormatFlaw", back, e, f, api.OK)
		}
	}
	full := two()
	full.Array.Elements = slices.Repeat([]api.Spot{{X: -100000, Z: -100000}}, 16)
	full.Array.Times = api.Sampling{First: api.MaxTime, Step: api.MaxStep}
	full.Pulse = slices.Repeat([]int{-100}, 16)
	full.Flaws = slices.Repeat([]api.BenchFlaw{plane(api.Spot{X: -100000, Z: 999}, api.Spot{X: -99999, Z: 999}, 20, -1000, -1000)}, 10)
	text, _ := bench.Print(full)
	wantParse(t, text, full, 0, api.OK)
}
