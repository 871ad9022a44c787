package focus

import (
	"iter"

	"couplant/api"
	"couplant/ray"
	"couplant/trace"
)

// task is a task that is right.
type task struct {
	grid
	array  api.BenchArray
	matrix api.FullMatrix
}

// taskOf is a right api.FocusTask.
func taskOf(t api.FocusTask) task {
	return task{grid: grid(t.Grid), array: t.Array, matrix: t.Matrix}
}

// elements is the numbers of all elements.
func (t task) elements() []int {
	var l []int
	for n := range t.array.Elements {
		l = append(l, n)
	}
	return l
}

// pairs yields all pairs, by firings, then by receivers.
func (t task) pairs(yield func(pair [2]int) bool) {
	pairsOf(t.elements(), t.elements())(yield)
}

// pairsOf yields the pairs of some firings and some receivers.
func pairsOf(firings, receivers []int) iter.Seq[[2]int] {
	return func(yield func(pair [2]int) bool) {
		for _, firing := range firings {
			for _, receiver := range receivers {
				if !yield([2]int{firing, receiver}) {
					return
				}
			}
		}
	}
}

// flight is the rounded times from all elements to a place, and back from it.
type flight struct{ out, back [api.MaxElements]int }

// echo is the echo of the place for a pair, as bench.EchoAt has it.
func (f flight) echo(pair [2]int) int { return f.out[pair[0]] + f.back[pair[1]] }

// flightTo is the flight to a cell. Each of its times belongs to the echoes of many pairs,
// for each of which bench.EchoAt would work it out anew.
func (t task) flightTo(cell int) flight {
	var f flight
	for n, element := range t.array.Elements {
		// Package ray has no errors for right ways.
		f.out[n], _ = ray.RoundedTime(t.array.Out, element, t.spotAt(cell))
		f.back[n], _ = ray.RoundedTime(t.array.Back, element, t.spotAt(cell))
	}
	return f
}

// flights is the flights to all cells.
func (t task) flights() []flight {
	var l []flight
	for cell := range t.cells() {
		l = append(l, t.flightTo(cell))
	}
	return l
}

// samplesOf is the analytic samples of a pair. Package trace has no errors for right traces.
func (t task) samplesOf(pair [2]int) [api.AnalyticEnd]complex64 {
	from := (pair[0]*t.matrix.Elements + pair[1]) * api.TraceSize
	samples, _ := trace.Analytic(api.Trace(t.matrix.Buffer[from : from+api.TraceSize]))
	return samples
}

// sums is, flight by flight, the sum of the analytic samples of those of some pairs that have a number, and how many have one.
func (t task) sums(flights []flight, pairs iter.Seq[[2]int]) ([]complex128, []int) {
	values, counts := make([]complex128, len(flights)), make([]int, len(flights))
	for pair := range pairs {
		samples := t.samplesOf(pair)
		for k := range flights {
			if n := t.nearest(flights[k].echo(pair)); isNumber(n) {
				values[k] += complex128(samples[n])
				counts[k]++
			}
		}
	}
	return values, counts
}

// image is the values of all cells.
func (t task) image() []complex128 {
	values, _ := t.sums(t.flights(), t.pairs)
	return values
}
