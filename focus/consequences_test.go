package focus_test

import (
	"slices"
	"testing"

	"couplant/api"
	"couplant/bench"
	"couplant/focus"
)

// deal rolls a deal of all elements.
func (d dice) deal(elements int) [][]int {
	deal := make([][]int, d.from(1, 16))
	for _, firing := range d.Perm(elements) {
		n := d.IntN(len(deal))
		deal[n] = append(deal[n], firing)
	}
	return deal
}

// TestP5_8 deals images out to workers in many ways, and merges shares.
func TestP5_8(t *testing.T) {
	d := newDice(8)
	for range 200 {
		task := d.task()
		elements := len(task.Array.Elements)
		right, e := focus.Image(task)
		want(t, "Image", 0, e, 0, api.OK)
		for range 3 {
			deal := d.deal(elements)
			workers, e := focus.CheckDeal(elements, deal)
			want(t, "CheckDeal", workers, e, len(slices.DeleteFunc(slices.Clone(deal), func(l []int) bool { return len(l) == 0 })), api.OK)
			l, e := focus.Dealt(task, deal)
			want(t, "Dealt", l, e, right, api.OK)
		}
		both := d.some(elements)
		cut := d.from(0, len(both))
		first, _ := focus.Share(task, both[:cut])
		second, _ := focus.Share(task, both[cut:])
		merged, e := focus.Merged([][]complex128{first, second})
		share, _ := focus.Share(task, both)
		want(t, "Merged", merged, e, share, api.OK)
	}
}

// TestP5_9 looks whether values lie within their ends, and numbers with those that may be.
func TestP5_9(t *testing.T) {
	d := newDice(9)
	for range 200 {
		task := d.task()
		for cell := range cells(task.Grid) {
			value, _, _ := focus.ValueAt(task, cell)
			ends, _ := focus.EndsAt(task, cell)
			if int(real(value)) < ends[0].Lo || int(real(value)) > ends[0].Hi || int(imag(value)) < ends[1].Lo || int(imag(value)) > ends[1].Hi {
				t.Error("a value out of its ends:", value, ends)
			}
			for _, pair := range allPairs(allElements(task), allElements(task)) {
				n, e := focus.NumberAt(task, cell, pair)
				r, f := focus.NumbersAt(task, cell, pair)
				if e == api.OK && (f != api.OK || n < r.Lo || n > r.Hi) {
					t.Error("a number that may not be:", n, r)
				}
			}
		}
	}
}

// TestP5_10 adds matrices, and leaves elements out.
func TestP5_10(t *testing.T) {
	d := newDice(10)
	for range 200 {
		first := d.task()
		elements := len(first.Array.Elements)
		first.Matrix = d.matrix(elements, 1000)
		second, both := copied(first), copied(first)
		second.Matrix = d.matrix(elements, 1047)
		for n, sample := range second.Matrix.Buffer {
			both.Matrix.Buffer[n] += sample
		}
		a, _ := focus.Image(first)
		b, _ := focus.Image(second)
		merged, e := focus.Merged([][]complex128{a, b})
		sum, _ := focus.Image(both)
		want(t, "the sum of images", merged, e, sum, api.OK)
		image, e := focus.WithoutDead(first, nil)
		want(t, "WithoutDead of none", image, e, a, api.OK)
		image, e = focus.WithoutDead(first, allElements(first))
		want(t, "WithoutDead of all", image, e, make([]complex128, len(a)), api.OK)
	}
}

// TestP5_11 holds Peak, Peaks, Above, DropOf and the texts against each other.
func TestP5_11(t *testing.T) {
	d := newDice(11)
	for range 500 {
		g := d.grid()
		powers := d.powers(g)
		peaks, _ := focus.Peaks(g, powers)
		if first, e := focus.Peak(g, powers); e == api.OK {
			want(t, "whether Peak is one of the Peaks", slices.Contains(peaks, first), e, true, api.OK)
			var equal []int
			for cell, power := range powers {
				if power == powers[first] {
					equal = append(equal, cell)
				}
			}
			loud, e := focus.Above(g, powers, powers[first])
			want(t, "Above of the power of Peak", loud, e, equal, api.OK)
		}
		for _, cell := range peaks {
			den := d.from(1, 1000)
			for down, at := range map[bool]int{false: cell % g.Columns, true: cell / g.Columns} {
				r, e := focus.DropOf(g, powers, api.FocusDrop{Cell: cell, Down: down, Num: d.from(1, den), Den: den})
				want(t, "whether the reach has its cell", r.Lo <= at && at <= r.Hi, e, true, api.OK)
			}
		}
		text, e := focus.PrintPowers(g, powers)
		want(t, "PrintPowers", 0, e, 0, api.OK)
		wantParse(t, text, g, powers, 0, api.OK)
	}
}

// TestP5Pore (P2) looks for the peak of the image of a pore: it is at the pore.
func TestP5Pore(t *testing.T) {
	m := api.RayMode{Wedge: 2500, Metal: 5900, Thick: 1200}
	s := api.BenchSpecimen{
		Array: api.BenchArray{Out: m, Back: m, Times: api.Sampling{First: 4500000, Step: 80000}},
		Pulse: []int{20, 35, -20, -35},
	}
	for n := range 16 {
		s.Array.Elements = append(s.Array.Elements, api.Spot{X: n*90 - 675, Z: -400})
	}
	g := api.FocusGrid{From: api.Spot{X: -400, Z: 300}, Columns: 9, Rows: 9, Step: 100}
	for _, cell := range []int{40, 22, 57} {
		s.Flaws = []api.BenchFlaw{{Kind: api.BenchPore, From: place(g, cell), Amplitude: 10}}
		matrix, e := bench.MatrixOf(s)
		want(t, "MatrixOf", 0, e, 0, api.OK)
		image, e := focus.Image(api.FocusTask{Array: s.Array, Matrix: matrix, Grid: g})
		want(t, "Image", 0, e, 0, api.OK)
		powers, _ := focus.Powers(image)
		peak, e := focus.Peak(g, powers)
		want(t, "the peak", peak, e, cell, api.OK)
		dealt, e := focus.Dealt(api.FocusTask{Array: s.Array, Matrix: matrix, Grid: g}, slices.Collect(slices.Chunk([]int{3, 1, 4, 15, 9, 2, 6, 5, 8, 7, 0, 10, 13, 11, 14, 12}, 1)))
		want(t, "Dealt to 16 workers", dealt, e, image, api.OK)
	}
}
