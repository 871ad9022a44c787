package focus

import (
	"slices"

	"couplant/api"
	"couplant/base"
)

// Powers returns the powers of the values of an image.
func Powers(image []complex128) ([]int, api.Errno) {
	if len(image) > mostCells {
		return nil, api.ErrLarge
	}
	_, e := base.FirstIn(len(image), func(n int) api.Errno { return valueError(image[n]) })
	if e != api.OK {
		return nil, e
	}
	var powers []int
	for _, value := range image {
		powers = append(powers, powerOf(value))
	}
	return powers, api.OK
}

// Peak returns the first cell with the greatest power.
func Peak(g api.FocusGrid, powers []int) (int, api.Errno) {
	if e := powersError(g, powers); e != api.OK {
		return 0, e
	}
	greatest := slices.Max(powers)
	if greatest == 0 {
		return 0, api.ErrNone
	}
	return slices.Index(powers, greatest), api.OK
}

// Peaks returns all peaks.
func Peaks(g api.FocusGrid, powers []int) ([]int, api.Errno) {
	if e := powersError(g, powers); e != api.OK {
		return nil, e
	}
	return cellsWhere(powers, func(cell int) bool { return grid(g).isPeak(powers, cell) }), api.OK
}

// Above returns the cells whose power is at least a level.
func Above(g api.FocusGrid, powers []int, level int) ([]int, api.Errno) {
	if e := base.FirstOf(powersError(g, powers), base.Unless(level >= 0, api.ErrRange)); e != api.OK {
		return nil, e
	}
	return cellsWhere(powers, func(cell int) bool { return powers[cell] >= level }), api.OK
}

// DropOf returns how far a power reaches along its row, or down its column.
func DropOf(g api.FocusGrid, powers []int, x api.FocusDrop) (api.Range, api.Errno) {
	e := base.FirstOf(powersError(g, powers), cellError(g, x.Cell), dropError(x))
	if e != api.OK {
		return api.Range{}, e
	}
	line, at := grid(g).lineThrough(powers, x)
	reaches := func(n int) bool {
		return base.Within(n, 0, len(line)-1) && line[n]*x.Den >= line[at]*x.Num
	}
	reach := api.Range{Lo: at, Hi: at}
	for reaches(reach.Lo - 1) {
		reach.Lo--
	}
	for reaches(reach.Hi + 1) {
		reach.Hi++
	}
	return reach, api.OK
}

// powerOf is the power of a value whose parts are whole.
func powerOf(value complex128) int {
	across, up := int(real(value)), int(imag(value))
	return across*across + up*up
}

// cellsWhere is the cells for which a condition holds.
func cellsWhere(powers []int, holds func(cell int) bool) []int {
	var cells []int
	for cell := range powers {
		if holds(cell) {
			cells = append(cells, cell)
		}
	}
	return cells
}

// isPeak tells whether a cell is a peak.
func (g grid) isPeak(powers []int, cell int) bool {
	for other := range g.around(cell) {
		isFirst := cell < other
		if powers[other] > powers[cell] || powers[other] == powers[cell] && !isFirst {
			return false
		}
	}
	return powers[cell] > 0
}

// lineThrough is the powers of the row, or of the column, of a drop's cell, and the number of the cell there.
func (g grid) lineThrough(powers []int, x api.FocusDrop) ([]int, int) {
	column, row := x.Cell%g.Columns, x.Cell/g.Columns
	if !x.Down {
		return powers[row*g.Columns : (row+1)*g.Columns], column
	}
	var line []int
	for r := range g.Rows {
		line = append(line, powers[r*g.Columns+column])
	}
	return line, row
}
