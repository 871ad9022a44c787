package focus_test

import (
	"math"
	"math/big"
	"slices"
	"testing"

	"couplant/api"
	"couplant/focus"
)

// row is a grid of one row, block one of some rows.
func row(columns int) api.FocusGrid { return block(columns, 1) }

func block(columns, rows int) api.FocusGrid {
	return api.FocusGrid{Columns: columns, Rows: rows, Step: 1}
}

func TestP5_5Powers(t *testing.T) {
	for _, x := range []struct {
		image []complex128
		right []int
	}{
		{nil, nil},
		{[]complex128{}, nil},
		{[]complex128{complex(30, -20)}, []int{1300}},
		{[]complex128{0, 1, -1, complex(0, 1), complex(-3, -4)}, []int{0, 1, 1, 1, 25}},
		{[]complex128{complex(1e7, -1e7), complex(-1e7, 0), complex(9999999, 9999998)}, []int{200000000000000, 100000000000000, 99999980000001 + 99999960000004}},
		{[]complex128{complex(minus(), minus())}, []int{0}},
		{make([]complex128, 1600), make([]int, 1600)},
	} {
		l, e := focus.Powers(x.image)
		want(t, "Powers", l, e, x.right, api.OK)
	}
	half, nan, loud := complex(0.5, 0), complex(0, math.NaN()), complex(0, -10000001)
	for _, x := range []struct {
		image []complex128
		right api.Errno
	}{
		{make([]complex128, 1601), api.ErrLarge}, {slices.Repeat([]complex128{half}, 1601), api.ErrLarge},
		{[]complex128{1, half}, api.ErrWhole}, {[]complex128{nan}, api.ErrWhole}, {[]complex128{complex(0, math.Inf(1))}, api.ErrWhole}, {[]complex128{complex(math.Inf(-1), 0)}, api.ErrWhole},
		{[]complex128{loud, half}, api.ErrRange}, {[]complex128{half, loud}, api.ErrWhole}, {[]complex128{1, 1, -loud}, api.ErrRange}, {[]complex128{10000001}, api.ErrRange}, {[]complex128{complex(-1e300, 0)}, api.ErrRange},
		{[]complex128{complex(0.5, -10000001)}, api.ErrWhole}, {[]complex128{complex(10000001, 0.5)}, api.ErrWhole},
	} {
		l, e := focus.Powers(x.image)
		want(t, "Powers of a wrong image", l, e, nil, x.right)
	}
}

func TestP5_5Peak(t *testing.T) {
	for _, x := range []struct {
		g      api.FocusGrid
		powers []int
		right  int
		e      api.Errno
	}{
		{row(4), []int{1, 5, 5, 2}, 1, api.OK}, {row(3), []int{5, 1, 5}, 0, api.OK}, {row(1), []int{1}, 0, api.OK}, {row(4), []int{1, 2, 3, 4}, 3, api.OK},
		{block(2, 2), []int{0, 0, 0, 7}, 3, api.OK}, {block(1, 3), []int{1, api.MaxPower, api.MaxPower}, 1, api.OK},
		{row(4), []int{0, 0, 0, 0}, 0, api.ErrNone}, {row(1), []int{0}, 0, api.ErrNone}, {block(40, 40), make([]int, 1600), 0, api.ErrNone},
	} {
		n, e := focus.Peak(x.g, x.powers)
		want(t, "Peak of "+shown(x.powers), n, e, x.right, x.e)
	}
}

func TestP5_5Peaks(t *testing.T) {
	for _, x := range []struct {
		g      api.FocusGrid
		powers []int
		right  []int
	}{
		{row(4), []int{1, 5, 5, 2}, []int{1}},
		{row(3), []int{5, 1, 5}, []int{0, 2}},
		{row(3), []int{5, 5, 7}, []int{0, 2}},
		{row(3), []int{7, 5, 5}, []int{0}},
		{row(5), []int{5, 5, 5, 5, 5}, []int{0}},
		{row(3), []int{0, 0, 0}, nil},
		{row(3), []int{0, 1, 0}, []int{1}},
		{block(1, 4), []int{1, 5, 5, 2}, []int{1}},
		// Neighbours at corners count; the end of a row is none of the beginning of the next one.
		{block(2, 2), []int{5, 0, 0, 6}, []int{3}},
		{block(2, 2), []int{0, 5, 6, 0}, []int{2}},
		{block(2, 2), []int{5, 0, 0, 5}, []int{0}},
		{block(2, 2), []int{0, 5, 5, 0}, []int{1}},
		{block(3, 2), []int{0, 0, 5, 6, 0, 0}, []int{2, 3}},
		{block(3, 2), []int{0, 0, 5, 5, 0, 0}, []int{2, 3}},
		{block(3, 3), []int{4, 4, 4, 4, 5, 4, 4, 4, 4}, []int{4}},
		{block(3, 3), []int{5, 4, 5, 4, 4, 4, 5, 4, 5}, []int{0, 2, 6, 8}},
		// A plateau round a corner.
		{block(3, 3), []int{0, 0, 5, 5, 5, 5, 5, 0, 0}, []int{2, 3}},
		{block(3, 2), []int{0, 5, 0, 5, 0, 5}, []int{1}},
		{block(4, 2), []int{0, 0, 5, 0, 5, 5, 0, 0}, []int{2, 4}},
	} {
		l, e := focus.Peaks(x.g, x.powers)
		want(t, "Peaks of "+shown(x.powers), l, e, x.right, api.OK)
	}
}

// TestP5_5PeaksDefinition holds peaks against the definition: cells are neighbours if no coordinate differs by more than 1.
func TestP5_5PeaksDefinition(t *testing.T) {
	d := newDice(4)
	for range 1000 {
		g := d.grid()
		powers := d.powers(g)
		var right []int
		for cell, power := range powers {
			isPeak := power > 0
			for other := range powers {
				across, down := cell%g.Columns-other%g.Columns, cell/g.Columns-other/g.Columns
				if other != cell && across*across <= 1 && down*down <= 1 {
					isPeak = isPeak && powers[other] <= power && !(powers[other] == power && other < cell)
				}
			}
			if isPeak {
				right = append(right, cell)
			}
		}
		l, e := focus.Peaks(g, powers)
		want(t, "Peaks", l, e, right, api.OK)
		first, f := 0, api.ErrNone
		for cell, power := range powers {
			if power > 0 && (f != api.OK || power > powers[first]) {
				first, f = cell, api.OK
			}
		}
		n, e := focus.Peak(g, powers)
		want(t, "Peak", n, e, first, f)
		level := powers[d.IntN(len(powers))]
		var loud []int
		for cell, power := range powers {
			if power >= level {
				loud = append(loud, cell)
			}
		}
		l, e = focus.Above(g, powers, level)
		want(t, "Above", l, e, loud, api.OK)
	}
}

func TestP5_5Above(t *testing.T) {
	for _, x := range []struct {
		level int
		right []int
		e     api.Errno
	}{
		{0, []int{0, 1, 2, 3}, api.OK}, {1, []int{0, 1, 3}, api.OK}, {2, []int{1, 3}, api.OK}, {5, []int{1, 3}, api.OK}, {6, nil, api.OK}, {greatest, nil, api.OK},
		{-1, nil, api.ErrRange}, {smallest, nil, api.ErrRange},
	} {
		l, e := focus.Above(row(4), []int{1, 5, 0, 5}, x.level)
		want(t, "Above", l, e, x.right, x.e)
	}
}

func TestP5_5DropOf(t *testing.T) {
	hill := []int{2, 8, 3, 1}
	cross := []int{
		1, 9, 1,
		5, 8, 2,
		3, 4, 9,
		8, 1, 8,
	}
	for _, x := range []struct {
		g      api.FocusGrid
		powers []int
		x      api.FocusDrop
		right  api.Range
	}{
		{row(4), hill, api.FocusDrop{Cell: 1, Num: 1, Den: 4}, api.Range{Lo: 0, Hi: 2}},
		{row(4), hill, api.FocusDrop{Cell: 1, Num: 1, Den: 8}, api.Range{Lo: 0, Hi: 3}},
		{row(4), hill, api.FocusDrop{Cell: 1, Num: 251, Den: 1000}, api.Range{Lo: 1, Hi: 2}},
		{row(4), hill, api.FocusDrop{Cell: 1, Num: 3, Den: 8}, api.Range{Lo: 1, Hi: 2}},
		{row(4), hill, api.FocusDrop{Cell: 1, Num: 376, Den: 1000}, api.Range{Lo: 1, Hi: 1}},
		{row(4), hill, api.FocusDrop{Cell: 1, Num: 1, Den: 1}, api.Range{Lo: 1, Hi: 1}},
		{row(4), hill, api.FocusDrop{Cell: 3, Num: 1, Den: 1}, api.Range{Lo: 0, Hi: 3}},
		{row(4), hill, api.FocusDrop{Cell: 0, Num: 1, Den: 1}, api.Range{Lo: 0, Hi: 2}},
		// Not in lowest terms.
		{row(4), hill, api.FocusDrop{Cell: 1, Num: 250, Den: 1000}, api.Range{Lo: 0, Hi: 2}},
		// Down a column there is the cell alone.
		{row(4), hill, api.FocusDrop{Cell: 1, Down: true, Num: 1, Den: 4}, api.Range{}},
		{block(1, 4), hill, api.FocusDrop{Cell: 1, Down: true, Num: 1, Den: 4}, api.Range{Lo: 0, Hi: 2}},
		{block(1, 4), hill, api.FocusDrop{Cell: 1, Num: 1, Den: 4}, api.Range{}},
		{block(3, 4), cross, api.FocusDrop{Cell: 4, Num: 1, Den: 2}, api.Range{Lo: 0, Hi: 1}},
		{block(3, 4), cross, api.FocusDrop{Cell: 4, Down: true, Num: 1, Den: 2}, api.Range{Lo: 0, Hi: 2}},
		{block(3, 4), cross, api.FocusDrop{Cell: 8, Num: 1, Den: 2}, api.Range{Lo: 2, Hi: 2}},
		{block(3, 4), cross, api.FocusDrop{Cell: 8, Num: 1, Den: 3}, api.Range{Lo: 0, Hi: 2}},
		{block(3, 4), cross, api.FocusDrop{Cell: 8, Down: true, Num: 1, Den: 2}, api.Range{Lo: 2, Hi: 3}},
		{block(3, 4), cross, api.FocusDrop{Cell: 9, Down: true, Num: 1, Den: 2}, api.Range{Lo: 3, Hi: 3}},
		{block(3, 4), cross, api.FocusDrop{Cell: 0, Down: true, Num: 1, Den: 1}, api.Range{Lo: 0, Hi: 3}},
		// What lies behind a quiet cell is not reached.
		{row(5), []int{9, 1, 9, 1, 9}, api.FocusDrop{Cell: 2, Num: 1, Den: 2}, api.Range{Lo: 2, Hi: 2}},
		{row(3), []int{0, 0, 0}, api.FocusDrop{Cell: 1, Num: 1000, Den: 1000}, api.Range{Lo: 0, Hi: 2}},
		{row(3), []int{api.MaxPower, api.MaxPower, api.MaxPower - 1}, api.FocusDrop{Cell: 1, Num: 1000, Den: 1000}, api.Range{Lo: 0, Hi: 1}},
		{row(3), []int{api.MaxPower, api.MaxPower, api.MaxPower/1000*999 - 1}, api.FocusDrop{Cell: 0, Num: 999, Den: 1000}, api.Range{Lo: 0, Hi: 1}},
		{row(3), []int{api.MaxPower, api.MaxPower, api.MaxPower / 1000 * 999}, api.FocusDrop{Cell: 0, Num: 999, Den: 1000}, api.Range{Lo: 0, Hi: 2}},
	} {
		r, e := focus.DropOf(x.g, x.powers, x.x)
		want(t, "DropOf of "+shown(x.powers)+shown(x.x), r, e, x.right, api.OK)
	}
}

// TestP5_5DropOfDefinition holds reaches against the definition, with exact fractions.
func TestP5_5DropOfDefinition(t *testing.T) {
	d := newDice(5)
	for range 1000 {
		g := d.grid()
		powers := d.powers(g)
		den := []int{2, 10, 1000}[d.IntN(3)]
		x := api.FocusDrop{Cell: d.IntN(len(powers)), Down: d.from(0, 1) == 0, Num: d.from(1, den), Den: den}
		share := big.NewRat(int64(x.Num), int64(x.Den))
		least := share.Mul(share, big.NewRat(int64(powers[x.Cell]), 1))
		step, at, end := 1, x.Cell%g.Columns, g.Columns
		if x.Down {
			step, at, end = g.Columns, x.Cell/g.Columns, g.Rows
		}
		right := api.Range{Lo: at, Hi: at}
		for n := at; n >= 0 && big.NewRat(int64(powers[x.Cell+(n-at)*step]), 1).Cmp(least) >= 0; n-- {
			right.Lo = n
		}
		for n := at; n < end && big.NewRat(int64(powers[x.Cell+(n-at)*step]), 1).Cmp(least) >= 0; n++ {
			right.Hi = n
		}
		r, e := focus.DropOf(g, powers, x)
		want(t, "DropOf", r, e, right, api.OK)
	}
}

func TestP5_5Errors(t *testing.T) {
	wanted := func(g api.FocusGrid, powers []int, level int, x api.FocusDrop, right api.Errno) {
		t.Helper()
		n, e := focus.Peak(g, powers)
		want(t, "Peak", n, e, 0, right)
		l, e := focus.Peaks(g, powers)
		want(t, "Peaks", l, e, nil, right)
		l, e = focus.Above(g, powers, level)
		want(t, "Above", l, e, nil, right)
		r, e := focus.DropOf(g, powers, x)
		want(t, "DropOf", r, e, api.Range{}, right)
	}
	for _, x := range wrongGrids() {
		wanted(x.g, []int{1, 2, 3, 4, 5, 6}, 0, api.FocusDrop{Cell: 0, Num: 1, Den: 2}, x.right)
		wanted(x.g, []int{-1}, -1, api.FocusDrop{Cell: -1}, x.right)
		wanted(x.g, nil, -1, api.FocusDrop{Cell: -1}, x.right)
	}
	for _, x := range wrongPowersOfTwo() {
		wanted(two().Grid, x.powers, 0, api.FocusDrop{Cell: 0, Num: 1, Den: 2}, x.right)
		wanted(two().Grid, x.powers, -1, api.FocusDrop{Cell: -1}, x.right)
	}
	powers := []int{1, 2, 3, 4, 5, 6}
	for _, cell := range wrongCells() {
		for _, num := range []int{0, 1} {
			r, e := focus.DropOf(two().Grid, powers, api.FocusDrop{Cell: cell, Num: num, Den: 2})
			want(t, "DropOf a wrong cell", r, e, api.Range{}, api.ErrMissing)
		}
	}
	for _, x := range [][2]int{{0, 1}, {-1, 1}, {2, 1}, {0, 0}, {1, 0}, {-2, -1}, {-1, -2}, {1, -1}, {1, 1001}, {1001, 1001}, {1002, 1001}, {smallest, greatest}, {greatest, smallest}, {greatest, greatest}, {smallest, smallest}, {1, greatest}} {
		r, e := focus.DropOf(two().Grid, powers, api.FocusDrop{Cell: 5, Num: x[0], Den: x[1]})
		want(t, "DropOf by a wrong share", r, e, api.Range{}, api.ErrRange)
	}
}
