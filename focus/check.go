package focus

import (
	"math"

	"couplant/api"
	"couplant/base"
	"couplant/bench"
	"couplant/ray"
	"couplant/trace"
)

const (
	mostCells = api.MaxGridSide * api.MaxGridSide
	mostDrop  = 1000 // the greatest Den of a drop
)

// CheckTask accepts a task, or returns the number of a wrong element, and the error.
func CheckTask(t api.FocusTask) (int, api.Errno) {
	if n, e := bench.CheckArray(t.Array); e != api.OK {
		return n, e
	}
	_, e := trace.CheckMatrix(t.Matrix)
	e = base.FirstOf(
		e,
		base.Unless(t.Matrix.Elements == len(t.Array.Elements), api.ErrClash),
		CheckGrid(t.Grid),
	)
	if e != api.OK {
		return 0, e
	}
	thick := t.Array.Out.Thick
	return 0, base.FirstOf(
		base.DepthError(t.Grid.From.Z, thick),
		base.DepthError(grid(t.Grid).last().Z, thick),
	)
}

// taskError is the error of CheckTask alone.
func taskError(t api.FocusTask) api.Errno {
	_, e := CheckTask(t)
	return e
}

// cellError is the error of a cell of a right grid.
func cellError(g api.FocusGrid, cell int) api.Errno {
	return base.MissingError(cell, grid(g).cells())
}

// pairAtError is the error of a task, a cell of it, and a pair.
func pairAtError(t api.FocusTask, cell int, pair [2]int) api.Errno {
	return base.FirstOf(
		taskError(t),
		cellError(t.Grid, cell),
		base.PairError(pair, len(t.Array.Elements)),
	)
}

// firingsError is the error of firings none of which has stood before. It puts them to those that have.
func firingsError(firings []int, elements int, stood map[int]bool) api.Errno {
	for _, firing := range firings {
		e := base.FirstOf(
			base.MissingError(firing, elements),
			base.Unless(!stood[firing], api.ErrDouble),
		)
		if e != api.OK {
			return e
		}
		stood[firing] = true
	}
	return api.OK
}

// modesError is the error of modes, out and back, for a plate.
func modesError(modes [][2]api.RayMode, thick int) api.Errno {
	if e := base.LengthError(len(modes), api.MaxFocusModes); e != api.OK {
		return e
	}
	_, e := base.FirstIn(len(modes), func(n int) api.Errno {
		out, back := modes[n][0], modes[n][1]
		return base.FirstOf(
			ray.CheckMode(out),
			ray.CheckMode(back),
			base.Unless(out.Thick == thick && back.Thick == thick, api.ErrUnit),
		)
	})
	return e
}

// valueError is the error of a value of an image.
func valueError(value complex128) api.Errno {
	across, up := real(value), imag(value)
	isSmall := math.Abs(across) <= api.MaxImagePart && math.Abs(up) <= api.MaxImagePart
	return base.FirstOf(
		base.Unless(base.IsWhole(across) && base.IsWhole(up), api.ErrWhole),
		base.Unless(isSmall, api.ErrRange),
	)
}

// imagesError is the error of images that are to be added.
func imagesError(l [][]complex128) api.Errno {
	if len(l) == 0 {
		return api.ErrShape
	}
	_, e := base.FirstIn(len(l), func(n int) api.Errno {
		return base.Unless(len(l[n]) == len(l[0]), api.ErrShape)
	})
	e = base.FirstOf(
		e,
		base.Unless(len(l) <= api.MaxFocusShares, api.ErrLarge),
		base.Unless(len(l[0]) <= mostCells, api.ErrLarge),
	)
	if e != api.OK {
		return e
	}
	// Value by value, image by image.
	_, e = base.FirstIn(len(l[0])*len(l), func(n int) api.Errno {
		return valueError(l[n%len(l)][n/len(l)])
	})
	return e
}

// powersError is the error of a grid, and of powers of it.
func powersError(g api.FocusGrid, powers []int) api.Errno {
	e := base.FirstOf(
		CheckGrid(g),
		base.Unless(len(powers) == grid(g).cells(), api.ErrShape),
	)
	if e != api.OK {
		return e
	}
	_, e = base.FirstIn(len(powers), func(n int) api.Errno {
		return base.RangeError(powers[n], 0, api.MaxPower)
	})
	return e
}

// dropError is the error of the share of a power at which a drop ends.
func dropError(x api.FocusDrop) api.Errno {
	return base.FirstOf(
		base.RangeError(x.Num, 1, x.Den),
		base.Unless(x.Den <= mostDrop, api.ErrRange),
	)
}
