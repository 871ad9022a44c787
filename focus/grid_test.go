package focus_test

import (
	"testing"

	"couplant/api"
	"couplant/focus"
)

func TestP5_1CheckGrid(t *testing.T) {
	for _, g := range []api.FocusGrid{
		one().Grid,
		two().Grid,
		{Columns: 1, Rows: 1, Step: 1},
		{From: api.Spot{X: 100000, Z: 100000}, Columns: 1, Rows: 1, Step: 10000},
		{From: api.Spot{X: -100000, Z: -100000}, Columns: 21, Rows: 21, Step: 10000},
		{From: api.Spot{X: -100000, Z: -100000}, Columns: 40, Rows: 40, Step: 5128},
		{From: api.Spot{X: 100000 - 39, Z: 100000 - 39}, Columns: 40, Rows: 40, Step: 1},
		{From: api.Spot{X: 100000 - 2*70}, Columns: 3, Rows: 1, Step: 70},
		{From: api.Spot{Z: 100000 - 2*70}, Columns: 1, Rows: 3, Step: 70},
	} {
		want(t, "CheckGrid of "+shown(g), 0, focus.CheckGrid(g), 0, api.OK)
	}
	for _, x := range wrongGrids() {
		want(t, "CheckGrid of "+shown(x.g), 0, focus.CheckGrid(x.g), 0, x.right)
	}
	// A grid of one row or column may have a great step: it has no second one.
	want(t, "CheckGrid with one column more", 0, focus.CheckGrid(api.FocusGrid{From: api.Spot{X: 100000}, Columns: 2, Rows: 1, Step: 1}), 0, api.ErrLarge)
	want(t, "CheckGrid with one row more", 0, focus.CheckGrid(api.FocusGrid{From: api.Spot{Z: 100000}, Columns: 1, Rows: 2, Step: 1}), 0, api.ErrLarge)
}

func TestP5_1SpotAt(t *testing.T) {
	g := two().Grid
	for cell, right := range []api.Spot{{X: -60, Z: 300}, {X: 10, Z: 300}, {X: 80, Z: 300}, {X: -60, Z: 370}, {X: 10, Z: 370}, {X: 80, Z: 370}} {
		got, e := focus.SpotAt(g, cell)
		want(t, "SpotAt", got, e, right, api.OK)
	}
	wide := api.FocusGrid{From: api.Spot{X: -100000, Z: 5}, Columns: 40, Rows: 40, Step: 100}
	got, e := focus.SpotAt(wide, 1599)
	want(t, "SpotAt of the last cell", got, e, api.Spot{X: -96100, Z: 3905}, api.OK)
	got, e = focus.SpotAt(wide, 1600)
	want(t, "SpotAt behind the last cell", got, e, api.Spot{}, api.ErrMissing)
	for _, cell := range wrongCells() {
		got, e := focus.SpotAt(g, cell)
		want(t, "SpotAt of a wrong cell", got, e, api.Spot{}, api.ErrMissing)
	}
	for _, x := range wrongGrids() {
		for _, cell := range []int{0, -1} {
			got, e := focus.SpotAt(x.g, cell)
			want(t, "SpotAt of a wrong grid", got, e, api.Spot{}, x.right)
		}
	}
}

func TestP5_1CheckTask(t *testing.T) {
	low := two()
	low.Grid.From.Z = 929
	high := two()
	high.Grid.From.Z = 1
	flat := two()
	flat.Grid.From.Z, flat.Grid.Rows, flat.Grid.Step = 999, 1, 10000
	for _, x := range []api.FocusTask{one(), two(), low, high, flat, firstAt(-5)} {
		n, e := focus.CheckTask(x)
		want(t, "CheckTask", n, e, 0, api.OK)
	}
	for _, x := range wrongTasks() {
		n, e := focus.CheckTask(x.t)
		want(t, "CheckTask of "+shown(x.t.Array)+shown(x.t.Grid), n, e, x.number, x.right)
	}
}
