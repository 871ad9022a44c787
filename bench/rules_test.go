package bench_test

import (
	"math"
	"slices"
	"testing"

	"couplant/api"
	"couplant/bench"
)

// TestP4NoPanic (R2) calls all functions with numbers of all sizes.
func TestP4NoPanic(t *testing.T) {
	numbers := []int{smallest, smallest + 1, -api.MaxTime, -api.MaxPlace, -2, -1, 0, 1, 2, 20, 63, 400, 1000, 5000, api.MaxPlace, api.MaxTime, greatest - 1, greatest}
	d := newDice(12)
	roll := func() int { return numbers[d.IntN(len(numbers))] }
	spot := func() api.Spot { return api.Spot{X: roll(), Z: roll()} }
	mode := func() api.RayMode { return api.RayMode{Wedge: roll(), Metal: roll(), Skips: roll(), Thick: roll()} }
	flaw := func() api.BenchFlaw {
		return api.BenchFlaw{Kind: d.from(-1, 2), From: spot(), To: spot(), Pieces: roll(), Amplitude: roll(), Tip: roll()}
	}
	specimen := func() api.BenchSpecimen {
		s := two()
		for _, change := range []func(){
			func() { s.Array.Elements[d.IntN(2)] = spot() },
			func() { s.Array.Elements = nil },
			func() { s.Array.Out = mode() },
			func() { s.Array.Back = mode() },
			func() { s.Array.Times = api.Sampling{First: roll(), Step: roll()} },
			func() { s.Pulse[d.IntN(3)] = roll() },
			func() { s.Pulse = nil },
			func() { s.Flaws[0] = flaw() },
			func() { s.Flaws[1] = flaw() },
		} {
			if d.from(0, 8) == 0 {
				change()
			}
		}
		return s
	}
	for range 10000 {
		s, at, pair := specimen(), spot(), [2]int{roll(), roll()}
		bench.CheckArray(s.Array)
		bench.CheckFlaw(flaw())
		bench.CheckSpecimen(s)
		bench.PointsOf(flaw())
		bench.EchoAt(s.Array, at, pair)
		bench.EchoRange(s.Array, at, pair)
		bench.SampleOf(s.Array, at, pair)
		bench.Pulsed(s.Pulse, roll(), roll())
		bench.TraceOf(s, pair)
		bench.MatrixOf(s)
		bench.Seen(s, at)
		bench.Without(s, roll())
		bench.Moved(s, roll())
		bench.Noise(roll(), roll(), d.from(-1, 5))
		bench.Noise(roll(), roll(), roll())
		bench.Noisy(api.FullMatrix{Elements: d.from(-1, 2), Buffer: make([]float32, 64)}, roll(), roll())
		bench.ParseFlaw(bench.FormatFlaw(flaw()))
		text, _ := bench.Print(s)
		bench.Parse(text[:d.IntN(len(text)+1)] + text[d.IntN(len(text)+1):])
		if d.from(0, 9) == 0 {
			bench.Along(s, roll(), roll())
		}
	}
}

// TestP4Signs (R6) looks for -0 in samples: opposite amplitudes, and products with 0.
func TestP4Signs(t *testing.T) {
	s := one()
	s.Pulse = []int{0, -3, 0}
	for _, flaws := range [][]api.BenchFlaw{nil, {pore(0, 400, -5)}, {pore(0, 400, 0)}, {pore(0, 400, 5), pore(0, 400, -5)}} {
		s.Flaws = flaws
		m, _ := bench.MatrixOf(s)
		one, _ := bench.TraceOf(s, [2]int{})
		pulsed, _ := bench.Pulsed(s.Pulse, -5, 3)
		noisy, _ := bench.Noisy(m, 1, 3)
		for n, sample := range slices.Concat(m.Buffer, one[:], pulsed[:], noisy.Buffer) {
			if sample == 0 && math.Signbit(float64(sample)) {
				t.Errorf("-0 at %d", n)
			}
		}
	}
}

// TestP4Memory (R3) writes into results, and behind them: arguments and other results stay as they are.
func TestP4Memory(t *testing.T) {
	s := two()
	elements, pulse, flaws := append(slices.Clone(s.Array.Elements), api.Spot{X: 55}), append(slices.Clone(s.Pulse), 55), append(slices.Clone(s.Flaws), api.BenchFlaw{Kind: 55})
	s.Array.Elements, s.Pulse, s.Flaws = elements[:2], pulse[:3], flaws[:2]
	for n, result := range []func() (api.BenchSpecimen, api.Errno){
		func() (api.BenchSpecimen, api.Errno) { return bench.Without(s, 0) },
		func() (api.BenchSpecimen, api.Errno) { return bench.Without(s, 1) },
		func() (api.BenchSpecimen, api.Errno) { return bench.Moved(s, 0) },
		func() (api.BenchSpecimen, api.Errno) { return bench.Moved(s, 5) },
		func() (api.BenchSpecimen, api.Errno) {
			x, _, e := bench.Parse(twoText)
			return x, e
		},
	} {
		first, _ := result()
		right := shown(first)
		first.Array.Elements[0].X, first.Pulse[0], first.Flaws[0].Kind = 77, 77, 77
		_, _, _ = append(first.Array.Elements, api.Spot{X: 88}), append(first.Pulse, 88), append(first.Flaws, api.BenchFlaw{Kind: 88})
		second, e := result()
		want(t, "a result again", shown(second), e, right, api.OK)
		want(t, "the argument", s, e, two(), api.OK)
		if elements[2].X != 55 || pulse[3] != 55 || flaws[2].Kind != 55 || t.Failed() {
			t.Fatalf("the result %d shares memory", n)
		}
	}
}

// TestP4Lists (R3) writes into lists, and appends to the lists of one result: all others stay as they are.
func TestP4Lists(t *testing.T) {
	s := two()
	l, _ := bench.Along(s, 0, 3)
	right := rightMatrix(s)
	for n := range l {
		_ = append(l[n].Buffer, 99)
		l[n].Buffer[n] = 99
	}
	for n, m := range l {
		want(t, "the first sample of a scan", m.Buffer[0] == 99, api.OK, n == 0, api.OK)
		want(t, "the rest of it", m.Buffer[3:], api.OK, right.Buffer[3:], api.OK)
	}
	m, _ := bench.MatrixOf(s)
	noisy, _ := bench.Noisy(m, 1, 0)
	noisy.Buffer[0] = 99
	want(t, "a matrix without noise", m, api.OK, right, api.OK)
	points, _ := bench.PointsOf(s.Flaws[1])
	points[0].Amplitude = 99
	points, e := bench.PointsOf(s.Flaws[1])
	want(t, "PointsOf again", points, e, rightPoints(s.Flaws[1]), api.OK)
	noise, _ := bench.Noise(1, 1, 2)
	noise[0] = 99
	noise, e = bench.Noise(1, 1, 2)
	want(t, "Noise again", noise, e, rightNoise(1, 1, 2), api.OK)
	seen, _ := bench.Seen(s, api.Spot{Z: 400})
	seen[0] = [2]int{99, 99}
	seen, e = bench.Seen(s, api.Spot{Z: 400})
	want(t, "Seen again", seen[0], e, [2]int{}, api.OK)
	want(t, "the specimen", s, api.OK, two(), api.OK)
}
