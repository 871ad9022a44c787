package tune

import (
	"couplant/api"
	"couplant/base"
)

// WearOf returns the enclosure of what has worn off a wedge, by its delays before and now.
func WearOf(before, now, speed api.Range) (api.Range, api.Errno) {
	e := base.FirstOf(
		base.EndsError(before, -api.MaxTime, api.MaxTime),
		base.EndsError(now, -api.MaxTime, api.MaxTime),
		base.EndsError(speed, api.LeastSpeed, api.MaxSpeed),
	)
	if e != api.OK {
		return api.Range{}, e
	}
	least, most := before.Lo-now.Hi, before.Hi-now.Lo
	// A greater speed makes more of what is above 0, and less of what is below.
	least = min(least*speed.Lo, least*speed.Hi)
	most = max(most*speed.Lo, most*speed.Hi)
	return api.Range{
		Lo: base.DividedDown(least, 2*slowest),
		Hi: base.DividedUp(most, 2*slowest),
	}, api.OK
}

// Uneven returns the numbers of the echoes that differ from a reference by more than so many thousandths of it.
func Uneven(l []int, reference, slack int) ([]int, api.Errno) {
	if len(l) > api.MaxElements {
		return nil, api.ErrLarge
	}
	_, e := base.FirstIn(len(l), func(n int) api.Errno { return base.RangeError(l[n], 0, api.MaxTuneEcho) })
	if e = base.FirstOf(e, echoError(reference), base.RangeError(slack, 0, 1000)); e != api.OK {
		return nil, e
	}
	var numbers []int
	for n, echo := range l {
		if 1000*base.Size(echo-reference) > slack*reference {
			numbers = append(numbers, n)
		}
	}
	return numbers, api.OK
}
