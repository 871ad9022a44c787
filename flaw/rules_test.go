package flaw_test

import (
	"testing"

	"couplant/api"
	"couplant/flaw"
)

// TestP8NoPanic (R2) calls all functions with numbers of all sizes.
func TestP8NoPanic(t *testing.T) {
	numbers := []int{smallest, smallest + 1, -1000000000, -1000001, -200000, -100000, -2, -1, 0, 1, 2, 3, 10, 24, 25, 100, 10000, 100000, 1000000, 1000000000, 1000000000000, greatest - 1, greatest}
	d := newDice(15)
	roll := func() int { return numbers[d.IntN(len(numbers))] }
	span := func() api.Range { return ends(roll(), roll()) }
	share := func() api.Frac { return frac(roll(), roll()) }
	for range 20000 {
		l, a, b, r := d.scans(9), d.marks(6), d.marks(6), d.rule()
		ask, grid, slack, f := api.FlawAsk{Level: d.from(0, 9), Corners: true}, api.FlawGrid{Along: 5, Down: 3}, 5, frac(1, 2)
		cell := [2]int{roll(), roll()}
		if len(l) > 0 {
			cell = [2]int{l[0].Row, l[0].Column}
		}
		x := api.FlawTip{Time: ends(5, 600000000), Offset: ends(3, 500), Speed: 3000}
		pairs, c := [][2]int{{0, 0}}, api.FlawCover{First: []int{0}, Second: []int{0, 1}}
		for _, change := range []func(){
			func() { l = append(l, api.FlawScan{Row: roll(), Column: roll(), Rows: roll(), Columns: roll()}) },
			func() { l = append(l, api.FlawScan{Row: roll(), Rows: 1, Columns: 2, Data: []int{roll(), roll()}}) },
			func() { a = append(a, api.FlawMark{Name: "z", Along: span(), Depth: span(), Level: roll()}) },
			func() { b = append(b, api.FlawMark{Name: "b", Along: span()}) },
			func() { r.Along, r.Down, r.Share = roll(), roll(), share() },
			func() { ask.Level, cell = roll(), [2]int{roll(), roll()} },
			func() { grid = api.FlawGrid{Along: roll(), Down: roll()} },
			func() { slack, f = roll(), share() },
			func() { x = api.FlawTip{Time: span(), Offset: span(), Speed: roll()} },
			func() { pairs = append(pairs, [2]int{roll(), roll()}) },
			func() { c.First, c.Second = append(c.First, roll()), []int{roll(), roll()} },
		} {
			if d.from(0, 9) == 0 {
				change()
			}
		}
		flaw.CheckScans(l)
		flaw.At(l, cell)
		areas, _ := flaw.Areas(l, ask)
		area, _ := flaw.AreaAt(l, ask, cell)
		flaw.CheckGrid(grid)
		for _, y := range append(areas, area, api.FlawArea{Cells: [][2]int{cell, {roll(), roll()}}, Level: roll()}) {
			flaw.MarkOf(y, grid, "m")
		}
		flaw.DropRange(l, [3]int{cell[0], cell[1], d.one(0, 1, roll())}, f)
		flaw.TipDepth(x)
		flaw.HeightOf(span(), span())
		flaw.CheckMarks(a)
		flaw.CheckRule(r)
		flaw.HullOf(a)
		flaw.Grouped(a, r)
		for n := range min(len(a), len(b)) {
			flaw.Interact(a[n], b[n], r)
			flaw.Alike(a[n], b[n], slack)
			flaw.ParseMark(flaw.FormatMark(a[n]))
		}
		flaw.Compared(a, b, slack)
		flaw.CheckPairs([2][]api.FlawMark{a, b}, slack, pairs)
		flaw.CheckCover([2][]api.FlawMark{a, b}, slack, c)
		flaw.Agreement(a, b, slack)
	}
}

// TestP8Memory (R3) writes into results, and behind them: arguments, and results of later calls, stay as they are.
func TestP8Memory(t *testing.T) {
	scans, marks := append(nine(), column()...)[:2], append(three(), other()...)[:3]
	ask, grid := api.FlawAsk{Level: 5}, api.FlawGrid{Along: 100, Down: 50}
	spoilArea := func(a api.FlawArea) string {
		text := shown(a)
		for n := range a.Cells {
			a.Cells[n][0] += 77
		}
		_ = append(a.Cells, [2]int{88, 88})
		return text
	}
	spoil := func(l []int) {
		for n := range l {
			l[n] += 77
		}
		_ = append(l, 88)
	}
	for n, result := range []func() string{
		func() string {
			areas, _ := flaw.Areas(six(), ask)
			text := ""
			for _, a := range areas {
				text += spoilArea(a)
			}
			areas[0].Cells = nil
			return text
		},
		func() string { a, _ := flaw.AreaAt(scans, ask, [2]int{0, 0}); return spoilArea(a) },
		func() string {
			groups, _ := flaw.Grouped(marks, api.FlawRule{Along: 50, Share: frac(0, 1)})
			text := shown(groups)
			for _, numbers := range groups {
				spoil(numbers)
			}
			_ = append(groups[:1], []int{88})
			return text
		},
		func() string {
			groups, _ := flaw.Grouped(row(0, 9, 20, 29, 40, 49, 60, 69, 5, 60), api.FlawRule{Share: frac(0, 1)})
			text := shown(groups)
			spoil(groups[0])
			return text
		},
		func() string {
			pairs, c, _ := flaw.Compared(row(0, 9, 20, 29, 21, 22, 30, 35), row(5, 6, 8, 9, 25, 33, 24, 25), 0)
			text := shown(pairs) + shown(c)
			spoil(c.First)
			spoil(c.Second)
			for n := range pairs {
				pairs[n][0] += 77
			}
			_ = append(pairs, [2]int{88, 88})
			return text
		},
	} {
		first := result()
		want(t, "a result again", result(), api.OK, first, api.OK)
		if len(first) < 5 || t.Failed() {
			t.Fatalf("the result %d is spoiled", n)
		}
	}
	// What lies behind one list of a result belongs to no other one.
	areas, _ := flaw.Areas(six(), ask)
	for n := range areas {
		_ = append(areas[n].Cells, [2]int{88, 88})
	}
	again, e := flaw.Areas(six(), ask)
	want(t, "the areas behind which something is put", areas, e, again, api.OK)
	cells := [][2]int{{0, 0}, {0, 1}, {5, 5}}[:2]
	flaw.MarkOf(api.FlawArea{Cells: cells}, grid, "m")
	flaw.HullOf(marks)
	pairs := [][2]int{{2, 2}, {0, 0}, {1, 1}}[:2]
	flaw.CheckPairs([2][]api.FlawMark{marks, marks}, 0, pairs)
	first, second := []int{0, 1, 9}[:2], []int{2, 8}[:1]
	flaw.CheckCover([2][]api.FlawMark{marks, marks}, 0, api.FlawCover{First: first, Second: second})
	want(t, "the scans", scans[:3], api.OK, append(nine(), column()...), api.OK)
	want(t, "the marks", marks[:4], api.OK, append(three(), other()...), api.OK)
	want(t, "the cells", cells[:3], api.OK, [][2]int{{0, 0}, {0, 1}, {5, 5}}, api.OK)
	want(t, "the pairs", pairs[:3], api.OK, [][2]int{{2, 2}, {0, 0}, {1, 1}}, api.OK)
	want(t, "the cover", append(first[:3], second[:2]...), api.OK, []int{0, 1, 9, 2, 8}, api.OK)
}
