package focus_test

import (
	"testing"

	"couplant/api"
	"couplant/focus"
)

func TestP5_2NumberAt(t *testing.T) {
	for _, x := range []struct {
		number, right int
		e             api.Errno
	}{
		{2, 2, api.OK}, {0, 0, api.OK}, {59, 59, api.OK}, {60, 60, api.OK},
		{61, 0, api.ErrNone}, {62, 0, api.ErrNone}, {63, 0, api.ErrNone}, {64, 0, api.ErrNone}, {-1, 0, api.ErrNone}, {70, 0, api.ErrNone}, {-50, 0, api.ErrNone},
	} {
		n, e := focus.NumberAt(firstAt(x.number), 0, [2]int{})
		want(t, "NumberAt", n, e, x.right, x.e)
	}
	// Halves upwards: 3999980 is half a step behind, and before, the samples 60 and 0.
	late := one()
	late.Array.Times = api.Sampling{First: 3999980 + 25000, Step: 50000}
	n, e := focus.NumberAt(late, 0, [2]int{})
	want(t, "NumberAt half a step before", n, e, 0, api.OK)
	late.Array.Times.First++
	n, e = focus.NumberAt(late, 0, [2]int{})
	want(t, "NumberAt more than half a step before", n, e, 0, api.ErrNone)
	late.Array.Times.First = 3999980 - 60*50000 - 25000
	n, e = focus.NumberAt(late, 0, [2]int{})
	want(t, "NumberAt half a step behind", n, e, 0, api.ErrNone)
	late.Array.Times.First++
	n, e = focus.NumberAt(late, 0, [2]int{})
	want(t, "NumberAt less than half a step behind", n, e, 60, api.OK)
	// Far from all times.
	late.Array.Times = api.Sampling{First: api.MaxTime, Step: 1}
	n, e = focus.NumberAt(late, 0, [2]int{})
	want(t, "NumberAt of the greatest times", n, e, 0, api.ErrNone)
}

func TestP5_2NumbersAt(t *testing.T) {
	// The echo is from 3999962 to 4000000.
	for _, x := range []struct {
		first, step int
		right       api.Range
		e           api.Errno
	}{
		{3900000, 50000, api.Range{Lo: 2, Hi: 2}, api.OK},
		{3999962, 1, api.Range{Lo: 0, Hi: 38}, api.OK},
		{3999961, 1, api.Range{Lo: 1, Hi: 39}, api.OK},
		{3999963, 1, api.Range{Lo: 0, Hi: 37}, api.OK},
		{4000000, 1, api.Range{Lo: 0, Hi: 0}, api.OK},
		{4000001, 1, api.Range{}, api.ErrNone},
		{4000001, 2, api.Range{Lo: 0, Hi: 0}, api.OK},
		{4000001, 3, api.Range{Lo: 0, Hi: 0}, api.OK},
		{4000002, 3, api.Range{}, api.ErrNone},
		{3999940, 1, api.Range{Lo: 22, Hi: 60}, api.OK},
		{3999939, 1, api.Range{Lo: 23, Hi: 60}, api.OK},
		{3999902, 1, api.Range{Lo: 60, Hi: 60}, api.OK},
		{3999901, 1, api.Range{}, api.ErrNone},
		{3999962, 2, api.Range{Lo: 0, Hi: 19}, api.OK},
		{3999961, 2, api.Range{Lo: 1, Hi: 20}, api.OK},
		{api.MaxTime, 1, api.Range{}, api.ErrNone},
		{0, 1, api.Range{}, api.ErrNone},
	} {
		task := one()
		task.Array.Times = api.Sampling{First: x.first, Step: x.step}
		r, e := focus.NumbersAt(task, 0, [2]int{})
		want(t, "NumbersAt of "+shown(task.Array.Times), r, e, x.right, x.e)
	}
	// All numbers lie between both ends.
	wide := one()
	wide.Array.Elements[0].Z, wide.Array.Out.Wedge, wide.Array.Back.Wedge = -1, 500, 500
	wide.Array.Times = api.Sampling{First: 1639900, Step: 1}
	r, e := focus.NumbersAt(wide, 0, [2]int{})
	want(t, "NumbersAt of all", r, e, api.Range{Lo: 0, Hi: 60}, api.OK)
}

// TestP5_2Definition holds numbers against the definition.
func TestP5_2Definition(t *testing.T) {
	d := newDice(1)
	none, cut := 0, 0
	for range 300 {
		task := d.task()
		for cell := range cells(task.Grid) {
			for _, pair := range allPairs(allElements(task), allElements(task)) {
				right, isThere := rightNumber(task, cell, pair)
				f := api.OK
				if !isThere {
					f, none = api.ErrNone, none+1
				}
				n, e := focus.NumberAt(task, cell, pair)
				want(t, "NumberAt", n, e, right, f)
				all := rightNumbers(task, cell, pair)
				most := api.Range{Lo: -1}
				for n := 60; n >= 0; n-- {
					if all.Lo <= n && n <= all.Hi {
						most.Lo, most.Hi = n, max(n, most.Hi)
					}
				}
				f = api.OK
				if most.Lo < 0 {
					most, f = api.Range{}, api.ErrNone
				} else if most != all {
					cut++
				}
				r, e := focus.NumbersAt(task, cell, pair)
				want(t, "NumbersAt", r, e, most, f)
			}
		}
	}
	if none < 1000 || cut < 50 {
		t.Error("too few numbers are none, or cut:", none, cut)
	}
}

func TestP5_2Errors(t *testing.T) {
	wanted := func(task api.FocusTask, cell int, pair [2]int, right api.Errno) {
		t.Helper()
		n, e := focus.NumberAt(task, cell, pair)
		want(t, "NumberAt", n, e, 0, right)
		r, e := focus.NumbersAt(task, cell, pair)
		want(t, "NumbersAt", r, e, api.Range{}, right)
	}
	for _, x := range wrongTasks() {
		wanted(x.t, 0, [2]int{}, x.right)
		wanted(x.t, -1, [2]int{}, x.right)
		wanted(x.t, 0, [2]int{0, 2}, x.right)
	}
	for _, cell := range wrongCells() {
		wanted(two(), cell, [2]int{}, api.ErrMissing)
		wanted(two(), cell, [2]int{0, 2}, api.ErrMissing)
	}
	late := two()
	late.Array.Times.First = api.MaxTime
	for _, pair := range wrongPairs() {
		wanted(two(), 0, pair, api.ErrMissing)
		wanted(late, 5, pair, api.ErrMissing)
	}
	wanted(late, 5, [2]int{1, 1}, api.ErrNone)
}
