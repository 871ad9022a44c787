package trace_test

import (
	"fmt"
	"math"
	"math/rand/v2"
	"slices"
	"strconv"
	"testing"

	"couplant/api"
)

const (
	greatest = int(^uint(0) >> 1)
	smallest = -greatest - 1
)

// want compares a result and its error with those that are promised; an empty list is one that is nil, but -0 is not 0.
func want[T any](t *testing.T, what string, got T, e api.Errno, right T, f api.Errno) {
	t.Helper()
	if shown(got) != shown(right) || e != f {
		t.Errorf("%q: %s, error %d; want %s, error %d", what, shown(got), e, shown(right), f)
	}
}

// shown is a result in letters, also if it is bytes that are none.
func shown(result any) string {
	if s, isText := result.(string); isText {
		return strconv.Quote(s)
	}
	return fmt.Sprint(result)
}

// wantError compares errors alone.
func wantError(t *testing.T, what string, e, f api.Errno) {
	t.Helper()
	if e != f {
		t.Errorf("%s: error %d; want %d", what, e, f)
	}
}

// minus is -0.
func minus() float32 { return float32(math.Copysign(0, -1)) }

// spike is a trace that is 0 but for a sample.
func spike(at int, sample float32) api.Trace {
	var t api.Trace
	t[at] = sample
	return t
}

// level is a trace with the same sample everywhere.
func level(sample float32) api.Trace {
	var t api.Trace
	for n := range t {
		t[n] = sample
	}
	return t
}

// silence is a matrix whose samples are 0.
func silence(elements int) api.FullMatrix {
	return api.FullMatrix{Elements: elements, Buffer: make([]float32, elements*elements*api.TraceSize)}
}

// spiked is a matrix whose samples are 0, but for one.
func spiked(elements int, pair [2]int, at int, sample float32) api.FullMatrix {
	m := silence(elements)
	m.Buffer[start(m, pair)+at] = sample
	return m
}

// start is where the trace of a pair begins.
func start(m api.FullMatrix, pair [2]int) int { return (pair[0]*m.Elements + pair[1]) * 64 }

// part is the trace of a pair, taken from the buffer sample by sample.
func part(m api.FullMatrix, pair [2]int) api.Trace {
	var t api.Trace
	for n := range t {
		t[n] = m.Buffer[start(m, pair)+n]
	}
	return t
}

// dice are numbers that are the same in each run.
type dice struct{ *rand.Rand }

func newDice(seed uint64) dice { return dice{rand.New(rand.NewPCG(seed, 3))} }

// from rolls a number from least to most.
func (d dice) from(least, most int) int { return least + d.IntN(most-least+1) }

// samples rolls samples up to a size.
func (d dice) samples(length, size int) []float32 {
	var l []float32
	for range length {
		l = append(l, float32(d.from(-size, size)))
	}
	return l
}

// trace rolls a trace with samples up to a size.
func (d dice) trace(size int) api.Trace { return api.Trace(d.samples(api.TraceSize, size)) }

// matrix rolls a matrix with samples up to a size.
func (d dice) matrix(elements, size int) api.FullMatrix {
	return api.FullMatrix{Elements: elements, Buffer: d.samples(elements*elements*api.TraceSize, size)}
}

// wrongSample is a sample with its error.
type wrongSample struct {
	sample float32
	right  api.Errno
}

func wrongSamples() []wrongSample {
	infinite, none := float32(math.Inf(1)), float32(math.NaN())
	l := []wrongSample{{none, api.ErrWhole}}
	for _, sign := range []float32{1, -1} {
		for _, sample := range []float32{0.5, 1e-45, 2046.5, 2047.5, 8388607.5, infinite} {
			l = append(l, wrongSample{sign * sample, api.ErrWhole})
		}
		for _, sample := range []float32{2048, 16777216, 1e20, math.MaxFloat32} {
			l = append(l, wrongSample{sign * sample, api.ErrRange})
		}
	}
	return l
}

// wrongTraces are traces with an error each.
func wrongTraces() map[api.Errno]api.Trace {
	return map[api.Errno]api.Trace{api.ErrWhole: spike(63, 0.5), api.ErrRange: spike(0, -2048)}
}

// wrongMatrix is a matrix with its error, and the number beside this.
type wrongMatrix struct {
	m      api.FullMatrix
	number int
	right  api.Errno
}

func wrongMatrices() []wrongMatrix {
	half := []float32{0.5}
	l := []wrongMatrix{
		{api.FullMatrix{}, 0, api.ErrRange},
		{api.FullMatrix{Elements: 1}, 0, api.ErrShape},
		{api.FullMatrix{Elements: 1, Buffer: []float32{}}, 0, api.ErrShape},
		{api.FullMatrix{Elements: 1, Buffer: make([]float32, 63)}, 0, api.ErrShape},
		{api.FullMatrix{Elements: 1, Buffer: make([]float32, 65)}, 0, api.ErrShape},
		{api.FullMatrix{Elements: 1, Buffer: slices.Repeat(half, 65)}, 0, api.ErrShape},
		{api.FullMatrix{Elements: 2, Buffer: make([]float32, 128)}, 0, api.ErrShape},
		{api.FullMatrix{Elements: 16, Buffer: make([]float32, 16385)}, 0, api.ErrShape},
		{api.FullMatrix{Elements: 1, Buffer: slices.Repeat(half, 64)}, 0, api.ErrWhole},
		{api.FullMatrix{Elements: 17, Buffer: make([]float32, 17*17*64)}, 0, api.ErrRange},
		{api.FullMatrix{Elements: -1, Buffer: make([]float32, 64)}, 0, api.ErrRange},
		{spiked(2, [2]int{1, 1}, 63, 2048), 255, api.ErrRange},
		{spiked(2, [2]int{1, 0}, 5, 0.5), 133, api.ErrWhole},
		{spiked(16, [2]int{15, 15}, 63, 0.5), 16383, api.ErrWhole},
	}
	for _, elements := range []int{0, -4, smallest, greatest, 1 << 32, 1 << 31} {
		l = append(l, wrongMatrix{api.FullMatrix{Elements: elements, Buffer: slices.Repeat(half, 64)}, 0, api.ErrRange})
		l = append(l, wrongMatrix{api.FullMatrix{Elements: elements}, 0, api.ErrRange})
	}
	for _, x := range wrongSamples() {
		m := spiked(2, [2]int{0, 1}, 7, x.sample)
		m.Buffer[72] = 0.5
		l = append(l, wrongMatrix{m, 71, x.right})
	}
	return l
}

// wrongPairs are pairs that a matrix of two elements does not have.
func wrongPairs() [][2]int {
	return [][2]int{{0, 2}, {2, 0}, {-1, 0}, {0, -1}, {2, 2}, {smallest, 1}, {1, smallest}, {greatest, 0}, {0, greatest}, {1 << 32, 0}}
}

// wrongGate is a gate with its error.
type wrongGate struct {
	g     api.TraceGate
	right api.Errno
}

func wrongGates() []wrongGate {
	l := []wrongGate{
		{api.TraceGate{From: 3, To: 2}, api.ErrOrder},
		{api.TraceGate{From: 60, To: 0}, api.ErrOrder},
		{api.TraceGate{From: 61, To: 60}, api.ErrRange},
		{api.TraceGate{From: 5, To: -1}, api.ErrRange},
	}
	for _, n := range []int{-1, 61, 63, smallest, greatest} {
		l = append(l, wrongGate{api.TraceGate{From: n, To: 60}, api.ErrRange}, wrongGate{api.TraceGate{From: 0, To: n}, api.ErrRange}, wrongGate{api.TraceGate{From: n, To: n}, api.ErrRange})
	}
	return l
}

func wrongSamplings() []api.Sampling {
	l := []api.Sampling{{}}
	for _, n := range []int{-1, api.MaxTime + 1, smallest, greatest} {
		l = append(l, api.Sampling{First: n, Step: 400})
	}
	for _, n := range []int{0, -1, api.MaxStep + 1, smallest, greatest} {
		l = append(l, api.Sampling{First: 1000, Step: n})
	}
	return l
}

// wrongTimes are greater in size than times are.
func wrongTimes() []int { return []int{-api.MaxTime - 1, api.MaxTime + 1, smallest, greatest} }
