package flaw

import (
	"cmp"
	"iter"
	"maps"
	"slices"

	"couplant/api"
	"couplant/base"
)

// known is cells that are known, with their amplitudes.
type known map[[2]int]int

// knownBy is the cells that are known by right scans.
func knownBy(l []api.FlawScan) known {
	k := known{}
	for _, s := range l {
		for n, amplitude := range s.Data {
			cell := [2]int{s.Row + n/s.Columns, s.Column + n%s.Columns}
			k[cell] = max(k[cell], amplitude)
		}
	}
	return k
}

// cells is the known cells in their order.
func (k known) cells() [][2]int { return slices.SortedFunc(maps.Keys(k), inOrder) }

// reaches tells whether a cell is known and has at least an amplitude.
func (k known) reaches(cell [2]int, level int) bool {
	amplitude, isKnown := k[cell]
	return isKnown && amplitude >= level
}

// cut takes the area that a cell is in out of the known cells.
func (k known) cut(from [2]int, x api.FlawAsk) known {
	area := known{}
	var reach func(cell [2]int)
	reach = func(cell [2]int) {
		area[cell] = k[cell]
		// A cell that is not known any more is not reached again.
		delete(k, cell)
		for next := range neighbours(cell, x.Corners) {
			if k.reaches(next, x.Level) {
				reach(next)
			}
		}
	}
	reach(from)
	return area
}

// neighbours yields the neighbours of a cell.
func neighbours(cell [2]int, corners bool) iter.Seq[[2]int] {
	return func(yield func(next [2]int) bool) {
		for n := range 9 {
			row, column := n/3-1, n%3-1
			apart := base.Size(row) + base.Size(column)
			isOne := apart == 1 || apart == 2 && corners
			if isOne && !yield([2]int{cell[0] + row, cell[1] + column}) {
				return
			}
		}
	}
}

// areaOf is the area that is made of cells, of which there is at least one.
func areaOf(k known) api.FlawArea {
	cells := k.cells()
	peak := slices.MaxFunc(cells, func(a, b [2]int) int { return cmp.Compare(k[a], k[b]) })
	return api.FlawArea{Cells: cells, Peak: peak, Level: k[peak]}
}

// inOrder compares two cells lexicographically.
func inOrder(a, b [2]int) int { return slices.Compare(a[:], b[:]) }
