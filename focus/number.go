package focus

import (
	"couplant/api"
	"couplant/base"
	"couplant/bench"
)

// lastNumber is the number of the last analytic sample.
const lastNumber = api.AnalyticEnd - 1

// NumberAt returns the number of a cell and a pair.
func NumberAt(t api.FocusTask, cell int, pair [2]int) (int, api.Errno) {
	if e := pairAtError(t, cell, pair); e != api.OK {
		return 0, e
	}
	x := taskOf(t)
	echo, _ := bench.EchoAt(x.array, x.spotAt(cell), pair)
	n := x.nearest(echo)
	if !isNumber(n) {
		return 0, api.ErrNone
	}
	return n, api.OK
}

// NumbersAt returns the least and the greatest number of a cell and a pair that may be.
func NumbersAt(t api.FocusTask, cell int, pair [2]int) (api.Range, api.Errno) {
	if e := pairAtError(t, cell, pair); e != api.OK {
		return api.Range{}, e
	}
	there := analyticPart(taskOf(t).numbersAt(cell, pair))
	if there.Lo > there.Hi {
		return api.Range{}, api.ErrNone
	}
	return there, api.OK
}

// nearest is the number of the sample whose time is nearest, also where there is no such sample.
func (t task) nearest(time int) int {
	return base.Rounded(time-t.array.Times.First, t.array.Times.Step)
}

// isNumber tells whether an analytic sample has a number.
func isNumber(n int) bool { return base.Within(n, 0, lastNumber) }

// numbersAt is the numbers that may be, also where there are no such samples.
func (t task) numbersAt(cell int, pair [2]int) api.Range {
	times, _ := bench.EchoRange(t.array, t.spotAt(cell), pair)
	return api.Range{Lo: t.nearest(times.Lo), Hi: t.nearest(times.Hi)}
}

// analyticPart is those of some numbers that analytic samples have: there are none if Lo is greater than Hi.
func analyticPart(numbers api.Range) api.Range {
	return api.Range{Lo: max(numbers.Lo, 0), Hi: min(numbers.Hi, lastNumber)}
}
