package trace_test

import (
	"slices"
	"testing"

	"couplant/api"
	"couplant/trace"
)

func TestP3_2TraceOf(t *testing.T) {
	d := newDice(2)
	for elements := 1; elements <= api.MaxElements; elements++ {
		m := d.matrix(elements, api.MaxSample)
		for f := range elements {
			for r := range elements {
				got, e := trace.TraceOf(m, [2]int{f, r})
				want(t, "TraceOf", got, e, part(m, [2]int{f, r}), api.OK)
			}
		}
		for _, pair := range [][2]int{{elements, 0}, {0, elements}} {
			got, e := trace.TraceOf(m, pair)
			want(t, "TraceOf beyond the last element", got, e, api.Trace{}, api.ErrMissing)
		}
	}
	for _, pair := range wrongPairs() {
		got, e := trace.TraceOf(silence(2), pair)
		want(t, "TraceOf of no pair", got, e, api.Trace{}, api.ErrMissing)
	}
	got, e := trace.TraceOf(spiked(1, [2]int{0, 0}, 5, minus()), [2]int{0, 0})
	want(t, "TraceOf of -0", got, e, api.Trace{}, api.OK)
}

func TestP3_2With(t *testing.T) {
	d := newDice(3)
	for range 100 {
		elements := d.from(1, 5)
		m, other := d.matrix(elements, api.MaxSample), d.trace(api.MaxSample)
		pair := [2]int{d.IntN(elements), d.IntN(elements)}
		right := slices.Clone(m.Buffer)
		copy(right[start(m, pair):], other[:])
		got, e := trace.With(m, pair, other)
		want(t, "With", got, e, api.FullMatrix{Elements: elements, Buffer: right}, api.OK)
	}
	for _, pair := range wrongPairs() {
		got, e := trace.With(silence(2), pair, spike(0, 0.5))
		want(t, "With of no pair", got, e, api.FullMatrix{}, api.ErrMissing)
	}
	got, e := trace.With(spiked(2, [2]int{1, 1}, 5, minus()), [2]int{0, 1}, level(minus()))
	want(t, "With -0", got, e, silence(2), api.OK)
}

func TestP3_2Transposed(t *testing.T) {
	d := newDice(4)
	for range 50 {
		m := d.matrix(d.from(1, 6), api.MaxSample)
		right := silence(m.Elements)
		for f := range m.Elements {
			for r := range m.Elements {
				from := part(m, [2]int{r, f})
				copy(right.Buffer[start(m, [2]int{f, r}):], from[:])
			}
		}
		got, e := trace.Transposed(m)
		want(t, "Transposed", got, e, right, api.OK)
	}
	got, e := trace.Transposed(spiked(2, [2]int{0, 1}, 5, minus()))
	want(t, "Transposed of -0", got, e, silence(2), api.OK)
}

func TestP3_2Unlike(t *testing.T) {
	opposite := spiked(2, [2]int{1, 0}, 63, -2047)
	opposite.Buffer[start(opposite, [2]int{0, 1})+63] = 2047
	self := spiked(2, [2]int{1, 1}, 3, 2047)
	for _, x := range []struct {
		m     api.FullMatrix
		noise int
		right [][2]int
	}{
		{spiked(2, [2]int{0, 1}, 5, 7), 6, [][2]int{{0, 1}}},
		{spiked(2, [2]int{0, 1}, 5, 7), 7, nil},
		{spiked(2, [2]int{1, 0}, 0, 7), 6, [][2]int{{0, 1}}},
		{spiked(2, [2]int{1, 0}, 63, -7), 6, [][2]int{{0, 1}}},
		{spiked(2, [2]int{1, 0}, 63, -7), 7, nil},
		{opposite, 4093, [][2]int{{0, 1}}},
		{opposite, 4094, nil},
		{self, 0, nil},
		{silence(1), 0, nil},
		{spiked(2, [2]int{0, 1}, 5, minus()), 0, nil},
		{silence(16), 0, nil},
	} {
		got, e := trace.Unlike(x.m, x.noise)
		want(t, "Unlike", got, e, x.right, api.OK)
	}
	for _, noise := range []int{-1, 4095, smallest, greatest} {
		got, e := trace.Unlike(opposite, noise)
		want(t, "Unlike with wrong noise", got, e, nil, api.ErrRange)
	}
}

func TestP3_2UnlikeDefinition(t *testing.T) {
	d := newDice(5)
	for range 200 {
		m := d.matrix(d.from(1, 6), d.from(0, 9))
		noise := d.from(0, 18)
		var right [][2]int
		for f := range m.Elements {
			for r := f + 1; r < m.Elements; r++ {
				here, there := part(m, [2]int{f, r}), part(m, [2]int{r, f})
				differs := false
				for n := range here {
					differs = differs || here[n]-there[n] > float32(noise) || there[n]-here[n] > float32(noise)
				}
				if differs {
					right = append(right, [2]int{f, r})
				}
			}
		}
		got, e := trace.Unlike(m, noise)
		want(t, "Unlike", got, e, right, api.OK)
	}
}
