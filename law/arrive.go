package law

import (
	"slices"

	"couplant/api"
	"couplant/base"
)

// mostLost is the greatest loss, in thousandths.
const mostLost = 1000

// Arrivals returns when the sound of the elements that send arrives at a place.
func Arrivals(a api.LawArray, l api.DelayLaw, at api.Spot) ([]api.Range, api.Errno) {
	if e := base.FirstOf(lawOfArrayError(a, l), placeError(a.Mode, at)); e != api.OK {
		return nil, e
	}
	return arrayAt(a, at).arrivals(l), api.OK
}

// Spread returns how far the last arrival at a place is behind the first one.
func Spread(a api.LawArray, l api.DelayLaw, at api.Spot) (api.Range, api.Errno) {
	arrivals, e := Arrivals(a, l, at)
	if e = base.FirstOf(e, base.Unless(len(arrivals) > 0, api.ErrNone)); e != api.OK {
		return api.Range{}, e
	}
	return spreadOf(arrivals), api.OK
}

// LossOf returns how many thousandths of the amplitude a spread costs at most.
func LossOf(spread, period int) (int, api.Errno) {
	e := base.FirstOf(
		base.RangeError(spread, 0, api.MaxTime),
		base.RangeError(period, 1, api.MaxPeriod),
	)
	if e != api.OK {
		return 0, e
	}
	// Beyond a period the square of the spread might not fit into an int.
	spread = min(spread, period)
	return min(mostLost, base.DividedUp(5000*spread*spread, period*period)), api.OK
}

// BestAt returns the number of the first place at which the spread ends earliest.
func BestAt(a api.LawArray, l api.DelayLaw, places []api.Spot) (int, api.Errno) {
	if e := base.FirstOf(lawOfArrayError(a, l), base.LengthError(len(places), api.MaxFoci)); e != api.OK {
		return 0, e
	}
	_, e := base.FirstIn(len(places), func(n int) api.Errno { return placeError(a.Mode, places[n]) })
	if e != api.OK {
		return 0, e
	}
	var ends []int
	for _, at := range places {
		spread, e := Spread(a, l, at)
		if e != api.OK {
			return 0, e
		}
		ends = append(ends, spread.Hi)
	}
	return slices.Index(ends, slices.Min(ends)), api.OK
}

// Coarsest returns the greatest clock with which the law of a focus has a spread there that is not too great.
func Coarsest(a api.LawArray, focus api.Spot, x api.LawClocks) (int, api.Errno) {
	if e := base.FirstOf(arrayError(a), placeError(a.Mode, focus), clocksError(x)); e != api.OK {
		return 0, e
	}
	asking := arrayAt(a, focus)
	isFine := func(clock int) bool {
		l, e := asking.focusLaw(clock)
		return e == api.OK && spreadOf(asking.arrivals(l)).Hi <= x.Most
	}
	for _, clock := range slices.Backward(x.Clocks) {
		if isFine(clock) {
			return clock, api.OK
		}
	}
	return 0, api.ErrNone
}

// clocksError is the error of clocks and of the greatest spread.
func clocksError(x api.LawClocks) api.Errno {
	if e := base.LengthError(len(x.Clocks), api.MaxFoci); e != api.OK {
		return e
	}
	_, e := base.FirstIn(len(x.Clocks), func(n int) api.Errno {
		return base.FirstOf(clockError(x.Clocks[n]), base.RiseError(x.Clocks, n))
	})
	return base.FirstOf(e, base.RangeError(x.Most, 0, api.MaxTime))
}

// arrivals is the arrivals, at the place that the array asks for, of the elements that send.
func (a array) arrivals(l api.DelayLaw) []api.Range {
	var arrivals []api.Range
	for n, ticks := range delays(l) {
		t := a.leastTime(a.elements[n])
		delay := ticks * l.Clock
		arrivals = append(arrivals, api.Range{Lo: t.Lo + delay, Hi: t.Hi + delay})
	}
	return arrivals
}

// spreadOf is the spread of one arrival at least.
func spreadOf(arrivals []api.Range) api.Range {
	first, last := arrivals[0], arrivals[0]
	for _, t := range arrivals {
		first = api.Range{Lo: min(first.Lo, t.Lo), Hi: min(first.Hi, t.Hi)}
		last = api.Range{Lo: max(last.Lo, t.Lo), Hi: max(last.Hi, t.Hi)}
	}
	return api.Range{Lo: max(0, last.Lo-first.Hi), Hi: last.Hi - first.Lo}
}
