package flaw_test

import (
	"slices"
	"testing"

	"couplant/api"
	"couplant/flaw"
)

func TestP8_1CheckScans(t *testing.T) {
	far := scanAt(-100000, 100000).of([]int{1000000000})
	large := api.FlawScan{Row: 100000, Column: -100000, Rows: 24, Columns: 24, Data: make([]int, 576)}
	for _, l := range [][]api.FlawScan{nil, {}, six(), nine(), column(), {far}, {large, far}, slices.Repeat(six(), 6)} {
		n, e := flaw.CheckScans(l)
		want(t, "CheckScans", n, e, 0, api.OK)
	}
	for _, x := range wrongScans() {
		n, e := flaw.CheckScans(x.l)
		want(t, "CheckScans of "+shown(x.l), n, e, x.n, x.right)
	}
}

func TestP8_1At(t *testing.T) {
	for _, x := range []struct {
		l     []api.FlawScan
		cell  [2]int
		right int
		e     api.Errno
	}{
		{six(), [2]int{0, 0}, 5, api.OK}, {six(), [2]int{0, 2}, 7, api.OK}, {six(), [2]int{1, 1}, 6, api.OK}, {six(), [2]int{0, 1}, 0, api.OK}, {six(), [2]int{1, 2}, 0, api.OK},
		{nine(), [2]int{0, 1}, 9, api.OK}, {nine(), [2]int{0, 0}, 5, api.OK}, {[]api.FlawScan{nine()[1], six()[0]}, [2]int{0, 1}, 9, api.OK},
		{append(nine(), scanAt(0, 1).of([]int{8})), [2]int{0, 1}, 9, api.OK}, {[]api.FlawScan{scanAt(-100000, 99999).of([]int{3, 4})}, [2]int{-100000, 100000}, 4, api.OK},
		{nil, [2]int{0, 0}, 0, api.ErrMissing}, {six(), [2]int{2, 0}, 0, api.ErrMissing}, {six(), [2]int{-1, 0}, 0, api.ErrMissing}, {six(), [2]int{0, 3}, 0, api.ErrMissing}, {six(), [2]int{0, -1}, 0, api.ErrMissing}, {six(), [2]int{1, -1}, 0, api.ErrMissing},
		{six(), [2]int{smallest, greatest}, 0, api.ErrMissing}, {six(), [2]int{greatest, 0}, 0, api.ErrMissing}, {six(), [2]int{0, smallest}, 0, api.ErrMissing},
	} {
		n, e := flaw.At(x.l, x.cell)
		want(t, "At "+shown(x.cell), n, e, x.right, x.e)
	}
	for _, x := range wrongScans() {
		n, e := flaw.At(x.l, [2]int{0, 0})
		want(t, "At in wrong scans", n, e, 0, x.right)
		n, e = flaw.At(x.l, [2]int{greatest, 0})
		want(t, "At in wrong scans", n, e, 0, x.right)
	}
	d := newDice(1)
	for range 200 {
		l := d.scans(9)
		for row := -4; row < 20; row++ {
			for column := -4; column < 20; column++ {
				cell := [2]int{row, column}
				if len(l) > 0 {
					cell[0], cell[1] = l[0].Row+row-4, l[0].Column+column-4
				}
				right, isKnown := rightAmplitude(l, cell)
				f := api.ErrMissing
				if isKnown {
					f = api.OK
				}
				n, e := flaw.At(l, cell)
				want(t, "At", n, e, right, f)
			}
		}
	}
}

func TestP8_2Areas(t *testing.T) {
	zero, one, two := [2]int{0, 0}, [2]int{0, 1}, [2]int{0, 2}
	apart := []api.FlawScan{scanAt(0, 2).of([]int{4}), scanAt(0, 0).of([]int{4})}
	equal := []api.FlawScan{scanAt(-1, -1).of([]int{3, 5}, []int{5, 4})}
	for _, x := range []struct {
		what    string
		l       []api.FlawScan
		level   int
		corners bool
		right   []api.FlawArea
	}{
		{"the first example", six(), 5, false, []api.FlawArea{area(5, zero, zero), area(7, two, two), area(6, [2]int{1, 1}, [2]int{1, 1})}},
		{"the first example with corners", six(), 5, true, []api.FlawArea{area(7, two, zero, two, [2]int{1, 1})}},
		{"one more cell", nine(), 5, false, []api.FlawArea{area(9, one, zero, one, two, [2]int{1, 1})}},
		{"a greater level", six(), 6, true, []api.FlawArea{area(7, two, two, [2]int{1, 1})}},
		{"a greater level without corners", six(), 6, false, []api.FlawArea{area(7, two, two), area(6, [2]int{1, 1}, [2]int{1, 1})}},
		{"the level 0", six(), 0, false, []api.FlawArea{area(7, two, zero, one, two, [2]int{1, 0}, [2]int{1, 1}, [2]int{1, 2})}},
		{"a level above all", six(), 8, true, nil}, {"no scans", nil, 0, true, nil}, {"the greatest level", six(), 1000000000, true, nil},
		{"scans apart", apart, 4, true, []api.FlawArea{area(4, zero, zero), area(4, two, two)}},
		{"scans apart at the level 0", apart, 0, true, []api.FlawArea{area(4, zero, zero), area(4, two, two)}},
		{"scans that touch", append(apart, scanAt(1, 1).of([]int{4})), 4, true, []api.FlawArea{area(4, zero, zero, two, [2]int{1, 1})}},
		{"equal amplitudes", equal, 1, false, []api.FlawArea{area(5, [2]int{-1, 0}, [2]int{-1, -1}, [2]int{-1, 0}, [2]int{0, -1}, [2]int{0, 0})}},
		{"cells over corners only", equal, 5, false, []api.FlawArea{area(5, [2]int{-1, 0}, [2]int{-1, 0}), area(5, [2]int{0, -1}, [2]int{0, -1})}},
		{"cells over corners", equal, 5, true, []api.FlawArea{area(5, [2]int{-1, 0}, [2]int{-1, 0}, [2]int{0, -1})}},
		{"all amplitudes 0", []api.FlawScan{scanAt(7, 8).of([]int{0})}, 0, false, []api.FlawArea{area(0, [2]int{7, 8}, [2]int{7, 8})}},
	} {
		ask := api.FlawAsk{Level: x.level, Corners: x.corners}
		areas, e := flaw.Areas(x.l, ask)
		want(t, "Areas of "+x.what, areas, e, x.right, api.OK)
		for _, right := range x.right {
			for _, cell := range right.Cells {
				a, e := flaw.AreaAt(x.l, ask, cell)
				want(t, "AreaAt of "+x.what, a, e, right, api.OK)
			}
		}
	}
}

// TestP8_2Definition holds areas against their definition.
func TestP8_2Definition(t *testing.T) {
	d := newDice(2)
	for range 400 {
		l, x := d.scans(d.one(2, 9)), api.FlawAsk{Level: d.from(0, 4), Corners: d.from(0, 1) > 0}
		right := rightAreas(l, x)
		areas, e := flaw.Areas(l, x)
		want(t, "Areas", areas, e, right, api.OK)
		for _, a := range right {
			got, e := flaw.AreaAt(l, x, a.Cells[d.IntN(len(a.Cells))])
			want(t, "AreaAt", got, e, a, api.OK)
		}
		for _, cell := range cellsOf(l) {
			if amplitude, _ := rightAmplitude(l, cell); amplitude < x.Level {
				got, e := flaw.AreaAt(l, x, cell)
				want(t, "AreaAt of a lesser cell", got, e, api.FlawArea{}, api.ErrNone)
			}
		}
	}
}

// TestP8_2Large makes areas of as many cells as there may be.
func TestP8_2Large(t *testing.T) {
	var l []api.FlawScan
	for n := range 6 {
		l = append(l, api.FlawScan{Row: 24 * n, Rows: 24, Columns: 24, Data: slices.Repeat([]int{1000000000}, 576)})
	}
	areas, e := flaw.Areas(l, api.FlawAsk{Level: 1000000000})
	want(t, "the number of areas", len(areas), e, 1, api.OK)
	want(t, "the number of cells", len(areas[0].Cells), e, 3456, api.OK)
	want(t, "the peak", areas[0].Peak, e, [2]int{0, 0}, api.OK)
	for n := range l {
		for at := range l[n].Data {
			l[n].Data[at] = (at/24 + at%24) % 2
		}
	}
	areas, e = flaw.Areas(l, api.FlawAsk{Level: 1})
	want(t, "the number of single areas", len(areas), e, 1728, api.OK)
	areas, e = flaw.Areas(l, api.FlawAsk{Level: 1, Corners: true})
	want(t, "the number of areas over corners", len(areas), e, 1, api.OK)
}

func TestP8_2Errors(t *testing.T) {
	out := [2]int{2, 0}
	for _, x := range wrongScans() {
		areas, e := flaw.Areas(x.l, api.FlawAsk{Level: -1})
		want(t, "Areas of wrong scans", areas, e, nil, x.right)
		a, e := flaw.AreaAt(x.l, api.FlawAsk{Level: -1}, out)
		want(t, "AreaAt of wrong scans", a, e, api.FlawArea{}, x.right)
	}
	for _, level := range wrongLevels() {
		areas, e := flaw.Areas(six(), api.FlawAsk{Level: level})
		want(t, "Areas with a wrong level", areas, e, nil, api.ErrRange)
		a, e := flaw.AreaAt(six(), api.FlawAsk{Level: level, Corners: true}, out)
		want(t, "AreaAt with a wrong level", a, e, api.FlawArea{}, api.ErrRange)
	}
	for _, cell := range [][2]int{out, {-1, 0}, {0, 3}, {smallest, 0}, {0, greatest}, {greatest, smallest}} {
		for _, level := range []int{0, 5, 1000000000} {
			a, e := flaw.AreaAt(six(), api.FlawAsk{Level: level}, cell)
			want(t, "AreaAt of a cell that is not known", a, e, api.FlawArea{}, api.ErrMissing)
		}
	}
	a, e := flaw.AreaAt(six(), api.FlawAsk{Level: 5}, [2]int{0, 1})
	want(t, "AreaAt of a cell below the level", a, e, api.FlawArea{}, api.ErrNone)
	a, e = flaw.AreaAt(six(), api.FlawAsk{Level: 8}, [2]int{0, 2})
	want(t, "AreaAt of a cell just below the level", a, e, api.FlawArea{}, api.ErrNone)
}

func TestP8_3CheckGrid(t *testing.T) {
	for _, g := range []api.FlawGrid{{Along: 1, Down: 1}, {Along: 100, Down: 50}, {Along: 10000, Down: 10000}, {Along: 10000, Down: 1}} {
		want(t, "CheckGrid", 0, flaw.CheckGrid(g), 0, api.OK)
	}
	for _, n := range wrongNumbers(-1, 0, 10001) {
		want(t, "CheckGrid", n, flaw.CheckGrid(api.FlawGrid{Along: n, Down: 1}), n, api.ErrRange)
		want(t, "CheckGrid", n, flaw.CheckGrid(api.FlawGrid{Along: 1, Down: n}), n, api.ErrRange)
	}
}

func TestP8_3MarkOf(t *testing.T) {
	grid := api.FlawGrid{Along: 100, Down: 50}
	var many [][2]int
	for n := range 4096 {
		many = append(many, [2]int{n / 64, n % 64})
	}
	for _, x := range []struct {
		a     api.FlawArea
		g     api.FlawGrid
		right api.FlawMark
	}{
		{area(3, [2]int{}, [2]int{0, 1}, [2]int{0, 2}), grid, mark("m", 0, 100, 50, 150)},
		{area(3, [2]int{9, 9}, [2]int{0, 2}, [2]int{1, 1}, [2]int{5, 0}), grid, mark("m", 0, 600, 0, 150)},
		{area(3, [2]int{}, [2]int{-5, 7}, [2]int{-3, -9}, [2]int{-3, 4}), grid, mark("m", -500, -200, -450, 400)},
		{area(3, [2]int{}, [2]int{-1, -1}), api.FlawGrid{Along: 1, Down: 1}, mark("m", -1, 0, -1, 0)},
		{area(3, [2]int{}, [2]int{-100, 99}), api.FlawGrid{Along: 10000, Down: 10000}, mark("m", -1000000, -990000, 990000, 1000000)},
		{area(3, [2]int{}, [2]int{-200000, 199999}, [2]int{199999, -200000}), api.FlawGrid{Along: 5, Down: 5}, mark("m", -1000000, 1000000, -1000000, 1000000)},
		{api.FlawArea{Cells: many, Level: 3}, grid, mark("m", 0, 6400, 0, 3200)},
	} {
		x.right.Level = 3
		m, e := flaw.MarkOf(x.a, x.g, "m")
		want(t, "MarkOf", m, e, x.right, api.OK)
	}
	m, e := flaw.MarkOf(area(0, [2]int{}, [2]int{0, 0}), grid, "abc-DEF-0123")
	want(t, "MarkOf the level 0", m, e, mark("abc-DEF-0123", 0, 100, 0, 50), api.OK)
	d := newDice(3)
	for range 300 {
		areas, _ := flaw.Areas(d.scans(9), api.FlawAsk{Level: d.from(0, 9)})
		for _, a := range areas {
			right := mark("m", greatest, smallest, greatest, smallest)
			right.Level = a.Level
			for _, cell := range a.Cells {
				right.Along = ends(min(right.Along.Lo, 7*cell[0]), max(right.Along.Hi, 7*cell[0]+7))
				right.Depth = ends(min(right.Depth.Lo, 3*cell[1]), max(right.Depth.Hi, 3*cell[1]+3))
			}
			m, e := flaw.MarkOf(a, api.FlawGrid{Along: 7, Down: 3}, "m")
			want(t, "MarkOf", m, e, right, api.OK)
		}
	}
}

func TestP8_3Errors(t *testing.T) {
	check := func(a api.FlawArea, g api.FlawGrid, name string, right api.Errno) {
		t.Helper()
		m, e := flaw.MarkOf(a, g, name)
		want(t, "MarkOf of "+shown(name), m, e, api.FlawMark{}, right)
	}
	one, first := area(3, [2]int{}, [2]int{0, 0}), [2]int{5, 5}
	check(api.FlawArea{}, api.FlawGrid{}, "", api.ErrShape)
	check(api.FlawArea{Cells: [][2]int{}, Level: 3}, api.FlawGrid{Along: 1, Down: 1}, "m", api.ErrShape)
	check(api.FlawArea{Cells: make([][2]int, 4097)}, api.FlawGrid{}, "", api.ErrLarge)
	check(api.FlawArea{Cells: make([][2]int, 4096)}, api.FlawGrid{}, "", api.ErrOrder)
	for _, n := range wrongNumbers(-200001, 200001) {
		for _, cell := range [][2]int{{n, 0}, {0, n}} {
			check(area(3, [2]int{}, cell), api.FlawGrid{}, "", api.ErrRange)
			check(area(3, [2]int{}, first, cell), api.FlawGrid{}, "", api.ErrRange)
			check(area(3, [2]int{}, first, first, cell), api.FlawGrid{}, "", api.ErrOrder)
		}
	}
	for _, cell := range [][2]int{first, {5, 4}, {4, 9}, {-200000, 200000}} {
		check(area(3, [2]int{}, first, cell), api.FlawGrid{}, "", api.ErrOrder)
		check(area(3, [2]int{}, first, [2]int{6, 0}, [2]int{6, 1}, [2]int{6, 1}), api.FlawGrid{}, "", api.ErrOrder)
	}
	for _, n := range wrongNumbers(-1, 0, 10001) {
		check(one, api.FlawGrid{Along: n, Down: 1}, "", api.ErrRange)
		check(one, api.FlawGrid{Along: 1, Down: n}, "", api.ErrRange)
	}
	for _, name := range []string{"", "5a", "a b", "abcdefghijklm", "ä"} {
		check(one, api.FlawGrid{Along: 1, Down: 1}, name, api.ErrName)
		check(area(-1, [2]int{}, [2]int{200000, 0}), api.FlawGrid{Along: 10000, Down: 1}, name, api.ErrName)
	}
	grid := api.FlawGrid{Along: 10000, Down: 10000}
	for _, cell := range [][2]int{{-101, 0}, {100, 0}, {0, -101}, {0, 100}, {200000, -200000}} {
		check(area(3, [2]int{}, cell), grid, "m", api.ErrRange)
	}
	for _, level := range wrongLevels() {
		check(area(level, [2]int{}, [2]int{0, 0}), grid, "m", api.ErrRange)
	}
}
