package bench_test

import (
	"math"
	"math/big"
	"slices"
	"testing"

	"couplant/api"
	"couplant/bench"
)

// rightNoise is the noise as the chapter defines it, with numbers of any size.
func rightNoise(seed, size, count int) []int {
	var l []int
	x := big.NewInt(int64(seed))
	for range count {
		x.Mul(x, big.NewInt(1103515245))
		x.Add(x, big.NewInt(12345))
		x.Mod(x, big.NewInt(2147483648))
		n := new(big.Int).Div(x, big.NewInt(65536))
		n.Mod(n, big.NewInt(int64(2*size+1)))
		l = append(l, int(n.Int64())-size)
	}
	return l
}

func wrongSeeds() []int { return []int{-1, 2147483648, smallest, greatest} }

func wrongSizes() []int { return []int{-1, 201, smallest, greatest} }

func TestP4_5Noise(t *testing.T) {
	l, e := bench.Noise(1, 1, 1)
	want(t, "Noise", l, e, []int{1}, api.OK)
	for _, seed := range []int{0, 1, 2, 12345, 2147483646, 2147483647} {
		for _, size := range []int{0, 1, 7, 199, 200} {
			for _, count := range []int{0, 1, 2, 100} {
				l, e := bench.Noise(seed, size, count)
				want(t, "Noise", l, e, rightNoise(seed, size, count), api.OK)
			}
		}
	}
	l, e = bench.Noise(5, 200, 16384)
	want(t, "the longest Noise", l, e, rightNoise(5, 200, 16384), api.OK)
	if slices.Min(l) != -200 || slices.Max(l) != 200 {
		t.Errorf("noise of the size 200 goes from %d to %d", slices.Min(l), slices.Max(l))
	}
}

func TestP4_5NoiseErrors(t *testing.T) {
	for _, seed := range wrongSeeds() {
		l, e := bench.Noise(seed, 1, 1)
		want(t, "Noise of a wrong seed", l, e, nil, api.ErrRange)
	}
	for _, size := range wrongSizes() {
		l, e := bench.Noise(1, size, 1)
		want(t, "Noise of a wrong size", l, e, nil, api.ErrRange)
	}
	for _, count := range []int{-1, 16385, smallest, greatest} {
		l, e := bench.Noise(1, 1, count)
		want(t, "Noise of a wrong length", l, e, nil, api.ErrRange)
	}
}

// silence is a matrix whose samples are 0.
func silence(elements int) api.FullMatrix {
	return api.FullMatrix{Elements: elements, Buffer: make([]float32, elements*elements*api.TraceSize)}
}

func TestP4_5Noisy(t *testing.T) {
	d := newDice(5)
	for _, elements := range []int{1, 2, 3, 16} {
		for _, size := range []int{0, 1, 200} {
			m, seed := silence(elements), d.from(0, 2147483647)
			right := silence(elements)
			for n, noise := range rightNoise(seed, size, len(m.Buffer)) {
				m.Buffer[n] = float32(d.from(-1847, 1847))
				right.Buffer[n] = m.Buffer[n] + float32(noise)
			}
			got, e := bench.Noisy(m, seed, size)
			want(t, "Noisy", got, e, right, api.OK)
		}
	}
	m := silence(1)
	for n := range m.Buffer {
		m.Buffer[n] = minus()
	}
	got, e := bench.Noisy(m, 1, 0)
	want(t, "Noisy of -0", got, e, silence(1), api.OK)
	// The first number is 1, the second one -1.
	want(t, "the noise", rightNoise(3, 1, 2), api.OK, []int{1, -1}, api.OK)
	m.Buffer[0], m.Buffer[1] = -1, 1
	got, e = bench.Noisy(m, 3, 1)
	want(t, "Noisy down to 0", got.Buffer[:2], e, []float32{0, 0}, api.OK)
	m.Buffer[0], m.Buffer[1] = 2046, -2046
	got, e = bench.Noisy(m, 3, 1)
	want(t, "Noisy up to the greatest samples", got.Buffer[:2], e, []float32{2047, -2047}, api.OK)
	for n, sample := range []float32{2047, -2047} {
		m := silence(1)
		m.Buffer[n] = sample
		got, e = bench.Noisy(m, 3, 1)
		want(t, "Noisy beyond the greatest samples", got, e, api.FullMatrix{}, api.ErrLarge)
		got, e = bench.Noisy(m, 3, 0)
		want(t, "Noisy without noise", got, e, m, api.OK)
	}
}

func TestP4_5NoisyErrors(t *testing.T) {
	half, loud := silence(1), silence(1)
	half.Buffer[63], loud.Buffer[0] = 0.5, 2048
	none, infinite := silence(1), silence(1)
	none.Buffer[5], infinite.Buffer[5] = float32(math.NaN()), float32(math.Inf(-1))
	for _, x := range []struct {
		m     api.FullMatrix
		right api.Errno
	}{
		{api.FullMatrix{}, api.ErrRange},
		{api.FullMatrix{Elements: 17, Buffer: make([]float32, 17*17*64)}, api.ErrRange},
		{api.FullMatrix{Elements: 1, Buffer: make([]float32, 63)}, api.ErrShape},
		{api.FullMatrix{Elements: 2, Buffer: make([]float32, 64)}, api.ErrShape},
		{half, api.ErrWhole}, {none, api.ErrWhole}, {infinite, api.ErrWhole}, {loud, api.ErrRange},
	} {
		for _, size := range []int{0, 201} {
			got, e := bench.Noisy(x.m, 1-size, size)
			want(t, "Noisy of a wrong matrix", got, e, api.FullMatrix{}, x.right)
		}
	}
	full := silence(1)
	for n := range full.Buffer {
		full.Buffer[n] = 2047
	}
	for _, seed := range wrongSeeds() {
		got, e := bench.Noisy(full, seed, 200)
		want(t, "Noisy of a wrong seed", got, e, api.FullMatrix{}, api.ErrRange)
	}
	for _, size := range wrongSizes() {
		got, e := bench.Noisy(full, 1, size)
		want(t, "Noisy of a wrong size", got, e, api.FullMatrix{}, api.ErrRange)
	}
}
