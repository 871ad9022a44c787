package flaw

import (
	"couplant/api"
	"couplant/base"
)

// thereAndBack is the time, by the speed, of a way of 1 there and back.
const thereAndBack = 20000000

// DropRange returns the length in cells of the drop from a cell along rows or columns.
func DropRange(l []api.FlawScan, peak [3]int, share api.Frac) (api.Range, api.Errno) {
	along := peak[2]
	if e := dropError(l, along, share); e != api.OK {
		return api.Range{}, e
	}
	cells, cell := knownBy(l), [2]int(peak[:2])
	amplitude, isKnown := cells[cell]
	e := base.FirstOf(
		base.Unless(isKnown, api.ErrMissing),
		base.Unless(amplitude > 0, api.ErrZero),
	)
	if e != api.OK {
		return api.Range{}, e
	}
	least := base.DividedUp(amplitude*share.Num, share.Den)
	// end is the first cell of a side that is not within the drop, and whether it is known.
	end := func(step int) (int, bool) {
		at := cell
		for cells.reaches(at, least) {
			at[along] += step
		}
		_, isKnown := cells[at]
		return at[along], isKnown
	}
	ahead, isAhead := end(-1)
	behind, isBehind := end(1)
	if !isAhead || !isBehind {
		return api.Range{}, api.ErrGap
	}
	return api.Range{Lo: behind - ahead - 2, Hi: behind - ahead}, api.OK
}

// TipDepth returns the enclosure of the depth of a tip.
func TipDepth(x api.FlawTip) (api.Range, api.Errno) {
	if e := tipError(x); e != api.OK {
		return api.Range{}, e
	}
	ways := api.Range{
		Lo: base.DividedDown(x.Time.Lo*x.Speed, thereAndBack),
		Hi: base.DividedUp(x.Time.Hi*x.Speed, thereAndBack),
	}
	least := ways.Lo*ways.Lo - x.Offset.Hi*x.Offset.Hi
	greatest := ways.Hi*ways.Hi - x.Offset.Lo*x.Offset.Lo
	if greatest < 0 {
		return api.Range{}, api.ErrNone
	}
	return api.Range{Lo: base.RootDown(max(least, 0)), Hi: base.RootUp(greatest)}, api.OK
}

// HeightOf returns the enclosure of how much deeper a lower tip is than an upper one.
func HeightOf(upper, lower api.Range) (api.Range, api.Errno) {
	e := base.FirstOf(
		base.EndsError(upper, -api.MaxPart, api.MaxPart),
		base.EndsError(lower, -api.MaxPart, api.MaxPart),
		base.Unless(lower.Hi >= upper.Lo, api.ErrBreak),
	)
	if e != api.OK {
		return api.Range{}, e
	}
	return api.Range{Lo: max(lower.Lo-upper.Hi, 0), Hi: lower.Hi - upper.Lo}, api.OK
}
