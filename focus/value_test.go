package focus_test

import (
	"testing"

	"couplant/api"
	"couplant/focus"
)

// wantValue holds all results of ValueAt against the right ones.
func wantValue(t *testing.T, what string, task api.FocusTask, cell int, right complex128, pairs int, f api.Errno) {
	t.Helper()
	value, n, e := focus.ValueAt(task, cell)
	want(t, "ValueAt of "+what, value, e, right, f)
	want(t, "the pairs beside ValueAt of "+what, n, e, pairs, f)
}

func TestP5_3ValueAt(t *testing.T) {
	wantValue(t, "the example", one(), 0, complex(30, -20), 1, api.OK)
	for number, right := range []complex128{complex(-30, 20), complex(20, 30), complex(30, -20), complex(-20, 0), 0} {
		wantValue(t, "another number", firstAt(number), 0, right, 1, api.OK)
	}
	for _, number := range []int{-1, 61, 63} {
		wantValue(t, "no number", firstAt(number), 0, 0, 0, api.OK)
	}
	wantValue(t, "the last number", firstAt(60), 0, 0, 1, api.OK)
	// All pairs of the greatest array add up.
	most := one()
	for range 15 {
		most.Array.Elements = append(most.Array.Elements, api.Spot{Z: -300})
	}
	most.Matrix.Elements, most.Matrix.Buffer = 16, nil
	for n := range 256 * 64 {
		most.Matrix.Buffer = append(most.Matrix.Buffer, 2047*float32(1-n%4/2*2))
	}
	wantValue(t, "the greatest samples", most, 0, complex(-256*4094, -256*4094), 256, api.OK)
}

func TestP5_3EndsAt(t *testing.T) {
	ends := func(what string, task api.FocusTask, right [2]api.Range) {
		t.Helper()
		r, e := focus.EndsAt(task, 0)
		want(t, "EndsAt of "+what, r, e, right, api.OK)
	}
	ends("the example", one(), [2]api.Range{{Lo: 30, Hi: 30}, {Lo: -20, Hi: -20}})
	ends("no number", firstAt(-1), [2]api.Range{})
	ends("no number behind the trace", firstAt(61), [2]api.Range{})
	// The echo is from 3999962 to 4000000.
	for _, x := range []struct {
		first, step int
		right       [2]api.Range
	}{
		// All numbers from 0 on, those ahead of the trace, those behind it.
		{3999962, 1, [2]api.Range{{Lo: -30, Hi: 30}, {Lo: -20, Hi: 30}}},
		{3999960, 1, [2]api.Range{{Lo: -20, Hi: 30}, {Lo: -20, Hi: 0}}},
		{3999959, 1, [2]api.Range{{Lo: -20, Hi: 0}, {}}},
		{3999998, 1, [2]api.Range{{Lo: -30, Hi: 30}, {Lo: -20, Hi: 30}}},
		{3999999, 1, [2]api.Range{{Lo: -30, Hi: 20}, {Lo: 0, Hi: 30}}},
		{4000000, 1, [2]api.Range{{Lo: -30, Hi: 0}, {Lo: 0, Hi: 20}}},
		{4000001, 1, [2]api.Range{}},
		// Just 2 and 3, or 1 and 2: the pair is not left out.
		{3999962 - 45, 30, [2]api.Range{{Lo: -20, Hi: 30}, {Lo: -20, Hi: 0}}},
		{3999962 - 30, 30, [2]api.Range{{Lo: 20, Hi: 30}, {Lo: -20, Hi: 30}}},
	} {
		task := one()
		task.Array.Times = api.Sampling{First: x.first, Step: x.step}
		ends(shown(task.Array.Times), task, x.right)
	}
	// The last number: it may be that there is none.
	last := one()
	last.Matrix.Buffer[60], last.Matrix.Buffer[61] = 7, 5
	last.Array.Times = api.Sampling{First: 3999902, Step: 1}
	ends("the last number", last, [2]api.Range{{Lo: 0, Hi: 7}, {Lo: 0, Hi: 5}})
	last.Array.Times = api.Sampling{First: 4000000 - 60*100, Step: 100}
	ends("the last number alone", last, [2]api.Range{{Lo: 7, Hi: 7}, {Lo: 5, Hi: 5}})
}

func TestP5_3Image(t *testing.T) {
	l, e := focus.Image(one())
	want(t, "Image", l, e, []complex128{complex(30, -20)}, api.OK)
	beside := one()
	beside.Grid = api.FocusGrid{From: api.Spot{Z: 150}, Columns: 1, Rows: 3, Step: 250}
	l, e = focus.Image(beside)
	want(t, "Image of three", l, e, []complex128{0, complex(30, -20), 0}, api.OK)
	none := two()
	none.Matrix.Buffer = make([]float32, 256)
	l, e = focus.Image(none)
	want(t, "Image of 0", l, e, make([]complex128, 6), api.OK)
}

// TestP5_3Definition holds values, their ends and images against the definitions.
func TestP5_3Definition(t *testing.T) {
	d := newDice(2)
	left := 0
	for range 200 {
		task := d.task()
		pairs := allPairs(allElements(task), allElements(task))
		values, counts := rightImage(task, pairs)
		l, e := focus.Image(task)
		want(t, "Image", l, e, values, api.OK)
		for cell, value := range values {
			wantValue(t, "a cell", task, cell, value, counts[cell], api.OK)
			if counts[cell] > 0 && counts[cell] < len(pairs) {
				left++
			}
			ends, e := focus.EndsAt(task, cell)
			want(t, "EndsAt", ends, e, rightEnds(task, cell), api.OK)
		}
	}
	if left < 100 {
		t.Error("too few values leave pairs out:", left)
	}
}

func TestP5_3Errors(t *testing.T) {
	for _, x := range wrongTasks() {
		for _, cell := range []int{0, -1} {
			wantValue(t, "a wrong task", x.t, cell, 0, 0, x.right)
			ends, e := focus.EndsAt(x.t, cell)
			want(t, "EndsAt of a wrong task", ends, e, [2]api.Range{}, x.right)
		}
		l, e := focus.Image(x.t)
		want(t, "Image of a wrong task", l, e, nil, x.right)
	}
	for _, cell := range wrongCells() {
		wantValue(t, "a wrong cell", two(), cell, 0, 0, api.ErrMissing)
		ends, e := focus.EndsAt(two(), cell)
		want(t, "EndsAt of a wrong cell", ends, e, [2]api.Range{}, api.ErrMissing)
	}
}
