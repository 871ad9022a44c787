package focus

import (
	"iter"

	"couplant/api"
	"couplant/base"
)

// grid is a grid that is right.
type grid api.FocusGrid

// CheckGrid accepts a grid.
func CheckGrid(g api.FocusGrid) api.Errno {
	e := base.FirstOf(
		base.PlaceError(g.From),
		base.RangeError(g.Columns, 1, api.MaxGridSide),
		base.RangeError(g.Rows, 1, api.MaxGridSide),
		base.RangeError(g.Step, 1, api.MaxGridStep),
	)
	if e != api.OK {
		return e
	}
	last := grid(g).last()
	return base.Unless(last.X <= api.MaxPlace && last.Z <= api.MaxPlace, api.ErrLarge)
}

// SpotAt returns the place of a cell.
func SpotAt(g api.FocusGrid, cell int) (api.Spot, api.Errno) {
	if e := base.FirstOf(CheckGrid(g), cellError(g, cell)); e != api.OK {
		return api.Spot{}, e
	}
	return grid(g).spotAt(cell), api.OK
}

// cells is how many cells there are.
func (g grid) cells() int { return g.Columns * g.Rows }

// spotAt is the place of a cell.
func (g grid) spotAt(cell int) api.Spot {
	return api.Spot{
		X: g.From.X + cell%g.Columns*g.Step,
		Z: g.From.Z + cell/g.Columns*g.Step,
	}
}

// last is the place of the last cell.
func (g grid) last() api.Spot { return g.spotAt(g.cells() - 1) }

// around yields the neighbours of a cell, ascending.
func (g grid) around(cell int) iter.Seq[int] {
	column, row := cell%g.Columns, cell/g.Columns
	return func(yield func(cell int) bool) {
		for r := max(row-1, 0); r <= min(row+1, g.Rows-1); r++ {
			for c := max(column-1, 0); c <= min(column+1, g.Columns-1); c++ {
				if other := r*g.Columns + c; other != cell && !yield(other) {
					return
				}
			}
		}
	}
}
