package focus

import (
	"slices"
	"strings"

	"couplant/api"
	"couplant/base"
)

const (
	gridWord   = "grid"
	mostDigits = 18 // digits of a number
)

// PrintPowers returns the text of powers.
func PrintPowers(g api.FocusGrid, powers []int) (string, api.Errno) {
	if e := powersError(g, powers); e != api.OK {
		return "", e
	}
	lines := []string{gridWord + " " + base.Spaced(g.From.X, g.From.Z, g.Columns, g.Rows, g.Step)}
	for row := range slices.Chunk(powers, g.Columns) {
		lines = append(lines, base.Spaced(row...))
	}
	return strings.Join(lines, "\n") + "\n", api.OK
}

// ParsePowers returns the grid and the powers with a text, or the number of its first wrong line, and the error.
func ParsePowers(s string) (api.FocusGrid, []int, int, api.Errno) {
	if len(s) > api.MaxText {
		return api.FocusGrid{}, nil, 0, api.ErrLarge
	}
	l := base.LinesOf(s)
	g, powers, isText := readPowers(l)
	if !isText {
		return api.FocusGrid{}, nil, l.Next(), api.ErrSyntax
	}
	if e := powersError(g, powers); e != api.OK {
		return api.FocusGrid{}, nil, 0, e
	}
	return g, powers, 0, api.OK
}

// readPowers reads a grid and powers, right or not, as far as the lines have their forms; it tells whether all have.
func readPowers(l *base.Lines) (api.FocusGrid, []int, bool) {
	var g api.FocusGrid
	var powers []int
	isText := base.ReadOne(l, &g, gridOf)
	for range g.Rows {
		var row []int
		isText = isText && base.ReadOne(l, &row, rowOf(g.Columns))
		powers = append(powers, row...)
	}
	return g, powers, isText && l.AtEnd()
}

// gridOf is the grid that a line tells, right or not, if it has its form.
func gridOf(line string) (api.FocusGrid, bool) {
	n, isForm := base.NumbersBehind(gridWord, line, mostDigits)
	if !isForm || len(n) != 5 {
		return api.FocusGrid{}, false
	}
	g := api.FocusGrid{From: api.Spot{X: n[0], Z: n[1]}, Columns: n[2], Rows: n[3], Step: n[4]}
	return g, base.Within(g.Columns, 1, api.MaxGridSide) && base.Within(g.Rows, 1, api.MaxGridSide)
}

// rowOf reads a row of so many powers, right or not.
func rowOf(columns int) func(line string) ([]int, bool) {
	return func(line string) ([]int, bool) {
		row, isForm := base.Numbers(line, mostDigits)
		return row, isForm && len(row) == columns
	}
}
