package bench_test

import (
	"slices"
	"testing"

	"couplant/api"
	"couplant/bench"
)

func TestP4_3Pulsed(t *testing.T) {
	sixteen := slices.Repeat([]int{100}, 16)
	for _, x := range []struct {
		pulse         []int
		amplitude, at int
		right         api.Trace
	}{
		{[]int{3, -2}, 10, 2, api.Trace{2: 30, 3: -20}},
		{[]int{3, -2}, -10, 0, api.Trace{0: -30, 1: 20}},
		{[]int{3, -2}, 10, -1, api.Trace{0: -20}},
		{[]int{3, -2}, 10, -2, api.Trace{}},
		{[]int{3, -2}, 10, 62, api.Trace{62: 30, 63: -20}},
		{[]int{3, -2}, 10, 63, api.Trace{63: 30}},
		{[]int{3, -2}, 10, 64, api.Trace{}},
		{[]int{3, -2}, 0, 5, api.Trace{}},
		{[]int{0, -2, 0}, -7, 5, api.Trace{6: 14}},
		{[]int{100}, 1000, 5, api.Trace{5: 100000}},
		{[]int{-100}, 1000, 5, api.Trace{5: -100000}},
		{sixteen, 1, -15, api.Trace{0: 100}},
		{sixteen, 1, -16, api.Trace{}},
		{sixteen, 1, 63, api.Trace{63: 100}},
		{sixteen, 1, 61, api.Trace{61: 100, 62: 100, 63: 100}},
		{sixteen, 1000, api.MaxTime, api.Trace{}},
		{sixteen, -1000, -api.MaxTime, api.Trace{}},
		{sixteen, 1, -1 << 32, api.Trace{}},
		{sixteen, 1, 1 << 32, api.Trace{}},
	} {
		got, e := bench.Pulsed(x.pulse, x.amplitude, x.at)
		want(t, "Pulsed", got, e, x.right, api.OK)
	}
}

func TestP4_3PulsedErrors(t *testing.T) {
	for _, x := range wrongPulses() {
		got, e := bench.Pulsed(x.pulse, 1, 1)
		want(t, "Pulsed of a wrong pulse", got, e, api.Trace{}, x.right)
		got, e = bench.Pulsed(x.pulse, 1001, greatest)
		want(t, "Pulsed of a wrong pulse, amplitude and number", got, e, api.Trace{}, x.right)
	}
	for _, amplitude := range []int{-1001, 1001, smallest, greatest} {
		got, e := bench.Pulsed([]int{3}, amplitude, 1)
		want(t, "Pulsed of a wrong amplitude", got, e, api.Trace{}, api.ErrRange)
	}
	for _, at := range []int{-api.MaxTime - 1, api.MaxTime + 1, smallest, greatest} {
		got, e := bench.Pulsed([]int{3}, 1, at)
		want(t, "Pulsed at a wrong number", got, e, api.Trace{}, api.ErrRange)
	}
}

func TestP4_3TraceOf(t *testing.T) {
	got, e := bench.TraceOf(one(), [2]int{})
	want(t, "TraceOf", got, e, api.Trace{2: 30, 3: -20}, api.OK)
	late := one()
	late.Array.Times.First = 4050000
	got, e = bench.TraceOf(late, [2]int{})
	want(t, "TraceOf a late trace", got, e, api.Trace{0: -20}, api.OK)
	none := one()
	none.Flaws = nil
	got, e = bench.TraceOf(none, [2]int{})
	want(t, "TraceOf without flaws", got, e, api.Trace{}, api.OK)
	got, e = bench.TraceOf(loud(3, 0), [2]int{})
	want(t, "TraceOf flaws of 0", got, e, api.Trace{}, api.OK)
	short := one()
	short.Flaws = []api.BenchFlaw{plane(api.Spot{Z: 400}, api.Spot{X: 1, Z: 400}, 9, 2, -5)}
	got, e = bench.TraceOf(short, [2]int{})
	want(t, "TraceOf points that all send", got, e, api.Trace{2: 3 * (8*2 - 2*5), 3: -2 * (8*2 - 2*5)}, api.OK)
}

// TestP4_3Sums holds traces and full matrices against the definition.
func TestP4_3Sums(t *testing.T) {
	sounding := 0
	wantSums := func(s api.BenchSpecimen) {
		t.Helper()
		for _, pair := range allPairs(s.Array) {
			right := rightTrace(s, pair)
			got, e := bench.TraceOf(s, pair)
			want(t, "TraceOf", got, e, right, api.OK)
			if right != (api.Trace{}) {
				sounding++
			}
		}
		m, e := bench.MatrixOf(s)
		want(t, "MatrixOf", m, e, rightMatrix(s), api.OK)
	}
	wantSums(two())
	d := newDice(4)
	for range 300 {
		wantSums(d.specimen())
	}
	if sounding < 300 {
		t.Errorf("%d traces are not 0", sounding)
	}
}

// TestP4_3Most is of a specimen with as many parts as may be.
func TestP4_3Most(t *testing.T) {
	s := two()
	s.Array.Elements, s.Pulse, s.Flaws = nil, slices.Repeat([]int{1, -1}, 8), nil
	for n := range api.MaxElements {
		s.Array.Elements = append(s.Array.Elements, api.Spot{X: 60 * n, Z: -300 - n})
	}
	for n := range api.MaxBenchFlaws {
		s.Flaws = append(s.Flaws, plane(api.Spot{X: 9 * n, Z: 300}, api.Spot{X: 300, Z: 700 - n}, api.MaxBenchPieces, 2, 1))
	}
	m, e := bench.MatrixOf(s)
	want(t, "MatrixOf the most", m, e, rightMatrix(s), api.OK)
}

// TestP4_3TooLarge asks for the size of sums alone, not of what is summed up.
func TestP4_3TooLarge(t *testing.T) {
	wantMost := func(s api.BenchSpecimen, right api.Trace, f api.Errno) {
		t.Helper()
		got, e := bench.TraceOf(s, [2]int{})
		want(t, "TraceOf", got, e, right, f)
		rightMatrix := api.FullMatrix{}
		if f == api.OK {
			rightMatrix = api.FullMatrix{Elements: 1, Buffer: right[:]}
		}
		m, e := bench.MatrixOf(s)
		want(t, "MatrixOf", m, e, rightMatrix, f)
	}
	s := loud(2, 1000)
	for _, x := range []struct {
		pulse, amplitude int
		right            api.Errno
	}{{1, 47, api.OK}, {1, 48, api.ErrLarge}, {-1, 47, api.OK}, {-1, 48, api.ErrLarge}} {
		s.Pulse = []int{x.pulse, 0}
		s.Flaws = []api.BenchFlaw{pore(0, 400, 1000), pore(0, 400, 1000), pore(0, 400, x.amplitude)}
		right := api.Trace{}
		if x.right == api.OK {
			right[2] = float32(x.pulse * 2047)
		}
		wantMost(s, right, x.right)
	}
	s.Pulse = []int{100}
	s.Flaws = []api.BenchFlaw{pore(0, 400, 1000), pore(0, 400, 1000), pore(0, 400, -1000), pore(0, 400, -990)}
	wantMost(s, api.Trace{2: 1000}, api.OK)
	// Sums on the way are greater than floats hold whole numbers.
	crack := plane(api.Spot{Z: 400}, api.Spot{X: 1, Z: 400}, 20, 1000, 1000)
	turned := plane(api.Spot{X: 1, Z: 400}, api.Spot{Z: 400}, 20, -1000, -1000)
	s.Pulse, s.Flaws = []int{100, 1}, slices.Concat(slices.Repeat([]api.BenchFlaw{crack}, 4), []api.BenchFlaw{pore(0, 400, 7)}, slices.Repeat([]api.BenchFlaw{turned}, 4))
	wantMost(s, api.Trace{2: 700, 3: 7}, api.OK)
	// What is too large ahead of the trace, or behind it, is lost.
	s = loud(10, 1000)
	for _, first := range []int{4100000 - 1, 3999980 - 64*50000} {
		s.Array.Times.First = first
		wantMost(s, api.Trace{}, api.OK)
	}
	s.Array.Times.First = 4050000
	wantMost(s, api.Trace{}, api.ErrLarge)
	s.Array.Times.First = 3999980 - 63*50000
	wantMost(s, api.Trace{}, api.ErrLarge)
}

// TestP4_3OnePair is too large for one pair only.
func TestP4_3OnePair(t *testing.T) {
	s := two()
	s.Flaws = []api.BenchFlaw{pore(0, 400, 1000)}
	s.Array.Times.First = rightEcho(s.Array, api.Spot{Z: 400}, [2]int{1, 1})
	s.Array.Times.Step = 1
	for _, pair := range allPairs(s.Array) {
		right := api.OK
		if pair == [2]int{1, 1} {
			right = api.ErrLarge
		}
		got, e := bench.TraceOf(s, pair)
		want(t, "TraceOf", got, e, api.Trace{}, right)
	}
	m, e := bench.MatrixOf(s)
	want(t, "MatrixOf", m, e, api.FullMatrix{}, api.ErrLarge)
}

func TestP4_3Errors(t *testing.T) {
	for _, x := range wrongSpecimens() {
		for _, pair := range [][2]int{{}, {-1, 9}} {
			got, e := bench.TraceOf(x.s, pair)
			want(t, "TraceOf a wrong specimen", got, e, api.Trace{}, x.right)
		}
		m, e := bench.MatrixOf(x.s)
		want(t, "MatrixOf a wrong specimen", m, e, api.FullMatrix{}, x.right)
	}
	large := two()
	large.Flaws = slices.Repeat([]api.BenchFlaw{pore(0, 400, 1000)}, 10)
	for _, pair := range wrongPairs() {
		for _, s := range []api.BenchSpecimen{two(), large} {
			got, e := bench.TraceOf(s, pair)
			want(t, "TraceOf for a wrong pair", got, e, api.Trace{}, api.ErrMissing)
		}
	}
}
