package trace_test

import (
	"math/big"
	"slices"
	"testing"

	"couplant/api"
	"couplant/trace"
)

func TestP3_3DeadElements(t *testing.T) {
	both := spiked(2, [2]int{0, 1}, 5, 7)
	for _, x := range []struct {
		m     api.FullMatrix
		level int
		right []int
	}{
		{both, 6, nil},
		{both, 7, []int{0, 1}},
		{spiked(3, [2]int{2, 0}, 63, -7), 6, []int{1}},
		{spiked(3, [2]int{2, 0}, 0, -7), 7, []int{0, 1, 2}},
		{spiked(3, [2]int{1, 1}, 9, 1), 0, []int{0, 2}},
		{spiked(1, [2]int{0, 0}, 9, 2047), 2046, nil},
		{spiked(1, [2]int{0, 0}, 9, -2047), 2047, []int{0}},
		{spiked(1, [2]int{0, 0}, 9, minus()), 0, []int{0}},
		{silence(1), 0, []int{0}},
		{silence(3), 0, []int{0, 1, 2}},
		{spiked(16, [2]int{15, 15}, 63, 1), 0, []int{0, 1, 2, 3, 4, 5, 6, 7, 8, 9, 10, 11, 12, 13, 14}},
	} {
		got, e := trace.DeadElements(x.m, x.level)
		want(t, "DeadElements", got, e, x.right, api.OK)
	}
	for _, level := range []int{-1, 2048, smallest, greatest} {
		got, e := trace.DeadElements(both, level)
		want(t, "DeadElements with a wrong level", got, e, nil, api.ErrRange)
	}
}

func TestP3_3Saturated(t *testing.T) {
	three := spiked(3, [2]int{2, 0}, 63, -2047)
	three.Buffer[start(three, [2]int{0, 2})] = 2047
	three.Buffer[start(three, [2]int{1, 1})+5] = 2047
	three.Buffer[start(three, [2]int{1, 1})+6] = 2047
	three.Buffer[start(three, [2]int{2, 2})] = 2046
	for _, x := range []struct {
		m     api.FullMatrix
		right [][2]int
	}{
		{silence(3), nil},
		{spiked(1, [2]int{0, 0}, 5, 2046), nil},
		{spiked(1, [2]int{0, 0}, 5, -2047), [][2]int{{0, 0}}},
		{three, [][2]int{{0, 2}, {1, 1}, {2, 0}}},
	} {
		got, e := trace.Saturated(x.m)
		want(t, "Saturated", got, e, x.right, api.OK)
	}
}

func TestP3_3Averaged(t *testing.T) {
	one := func(sample float32) api.FullMatrix { return spiked(1, [2]int{0, 0}, 5, sample) }
	list := func(samples ...float32) []api.FullMatrix {
		var l []api.FullMatrix
		for _, sample := range samples {
			l = append(l, one(sample))
		}
		return l
	}
	for _, x := range []struct {
		l     []api.FullMatrix
		right float32
	}{
		{list(7), 7},
		{list(-7), -7},
		{list(7, 0), 4},
		{list(-7, 0), -3},
		{list(-1, 0), 0},
		{list(minus()), 0},
		{list(minus(), minus()), 0},
		{list(1, 0, 0), 0},
		{list(1, 1, 0), 1},
		{list(-1, -1, 0), -1},
		{list(2047, -2047), 0},
		{slices.Repeat(list(2047), 32), 2047},
		{slices.Repeat(list(-2047), 32), -2047},
		{slices.Concat(slices.Repeat(list(0), 16), slices.Repeat(list(1), 16)), 1},
		{slices.Concat(slices.Repeat(list(0), 17), slices.Repeat(list(1), 15)), 0},
	} {
		got, e := trace.Averaged(x.l)
		want(t, "Averaged", got, e, one(x.right), api.OK)
	}
}

func TestP3_3AveragedErrors(t *testing.T) {
	half, great := spiked(1, [2]int{0, 0}, 5, 0.5), spiked(2, [2]int{1, 1}, 5, 2048)
	for _, x := range []struct {
		l     []api.FullMatrix
		right api.Errno
	}{
		{nil, api.ErrShape},
		{[]api.FullMatrix{}, api.ErrShape},
		{make([]api.FullMatrix, 33), api.ErrLarge},
		{slices.Repeat([]api.FullMatrix{half}, 33), api.ErrLarge},
		{[]api.FullMatrix{silence(1), half}, api.ErrWhole},
		{[]api.FullMatrix{silence(1), silence(2)}, api.ErrClash},
		{[]api.FullMatrix{silence(2), silence(2), silence(1)}, api.ErrClash},
		{[]api.FullMatrix{silence(1), great}, api.ErrRange},
		{[]api.FullMatrix{silence(1), silence(2), half}, api.ErrClash},
		{[]api.FullMatrix{silence(1), half, silence(2)}, api.ErrWhole},
		{[]api.FullMatrix{great, half}, api.ErrRange},
		{[]api.FullMatrix{silence(1), {Elements: 2}}, api.ErrShape},
	} {
		got, e := trace.Averaged(x.l)
		want(t, "Averaged of a wrong list", got, e, api.FullMatrix{}, x.right)
	}
}

// TestP3_3AveragedDefinition holds means against exact ones, a half added and rounded down.
func TestP3_3AveragedDefinition(t *testing.T) {
	d := newDice(6)
	for range 50 {
		elements := d.from(1, 3)
		var l []api.FullMatrix
		for range d.from(1, api.MaxAverage) {
			l = append(l, d.matrix(elements, api.MaxSample))
		}
		right := silence(elements)
		for n := range right.Buffer {
			sum := new(big.Rat)
			for _, m := range l {
				sum.Add(sum, big.NewRat(int64(m.Buffer[n]), int64(len(l))))
			}
			sum.Add(sum, big.NewRat(1, 2))
			right.Buffer[n] = float32(new(big.Int).Div(sum.Num(), sum.Denom()).Int64())
		}
		got, e := trace.Averaged(l)
		want(t, "Averaged", got, e, right, api.OK)
	}
}
