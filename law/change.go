package law

import (
	"slices"

	"couplant/api"
	"couplant/base"
)

// silent is the ticks of an element that does not send.
const silent = -1

// Without returns a law in which some elements do not send.
func Without(l api.DelayLaw, dead []int) (api.DelayLaw, api.Errno) {
	if e := base.FirstOf(lawError(l), base.NumbersError(dead, len(l.Ticks))); e != api.OK {
		return api.DelayLaw{}, e
	}
	ticks := slices.Clone(l.Ticks)
	for _, n := range dead {
		ticks[n] = silent
	}
	return api.DelayLaw{Clock: l.Clock, Ticks: ticks}, api.OK
}

// Sending returns the numbers of the elements that send.
func Sending(l api.DelayLaw) ([]int, api.Errno) {
	if e := lawError(l); e != api.OK {
		return nil, e
	}
	var numbers []int
	for n := range delays(l) {
		numbers = append(numbers, n)
	}
	return numbers, api.OK
}

// Aperture returns the least and the greatest X of the elements that send.
func Aperture(a api.LawArray, l api.DelayLaw) (api.Range, api.Errno) {
	if e := lawOfArrayError(a, l); e != api.OK {
		return api.Range{}, e
	}
	var places []int
	for n := range delays(l) {
		places = append(places, a.Elements[n].X)
	}
	if len(places) == 0 {
		return api.Range{}, api.ErrNone
	}
	return api.Range{Lo: slices.Min(places), Hi: slices.Max(places)}, api.OK
}

// Normalised returns a law less the least ticks.
func Normalised(l api.DelayLaw) (api.DelayLaw, api.Errno) {
	if e := lawError(l); e != api.OK {
		return api.DelayLaw{}, e
	}
	var sent []int
	for _, ticks := range delays(l) {
		sent = append(sent, ticks)
	}
	if len(sent) == 0 {
		return api.DelayLaw{}, api.ErrNone
	}
	least := slices.Min(sent)
	return changed(l, l.Clock, func(_, ticks int) int { return ticks - least })
}

// Added returns the sum of two laws.
func Added(a, b api.DelayLaw) (api.DelayLaw, api.Errno) {
	e := base.FirstOf(
		lawError(a),
		lawError(b),
		base.Unless(a.Clock == b.Clock, api.ErrUnit),
		base.Unless(len(a.Ticks) == len(b.Ticks), api.ErrShape),
	)
	if e != api.OK {
		return api.DelayLaw{}, e
	}
	return changed(a, a.Clock, func(n, ticks int) int {
		if b.Ticks[n] == silent {
			return silent
		}
		return ticks + b.Ticks[n]
	})
}

// Recast returns a law with another clock.
func Recast(l api.DelayLaw, clock int) (api.DelayLaw, api.Errno) {
	if e := base.FirstOf(lawError(l), clockError(clock)); e != api.OK {
		return api.DelayLaw{}, e
	}
	return changed(l, clock, func(_, ticks int) int { return base.Rounded(ticks*l.Clock, clock) })
}

// changed is a law with a clock in which the elements that send have other ticks than in another law.
func changed(l api.DelayLaw, clock int, change func(n, ticks int) int) (api.DelayLaw, api.Errno) {
	other := slices.Clone(l.Ticks)
	for n, ticks := range delays(l) {
		other[n] = change(n, ticks)
	}
	return limited(clock, other)
}
