package focus_test

import (
	"math"
	"slices"
	"sync"
	"testing"

	"couplant/api"
	"couplant/focus"
)

// TestP5NoPanic (R2) calls all functions with numbers of all sizes.
func TestP5NoPanic(t *testing.T) {
	numbers := []int{smallest, smallest + 1, -api.MaxTime, -api.MaxPlace, -2, -1, 0, 1, 2, 3, 16, 40, 63, 400, 1000, api.MaxPlace, api.MaxTime, api.MaxPower, greatest - 1, greatest}
	floats := []float64{minus(), 0.5, 1, -7, 1e7, 1e300, math.NaN(), math.Inf(1), math.Inf(-1), -math.MaxFloat64, math.SmallestNonzeroFloat64}
	d := newDice(12)
	roll := func() int { return numbers[d.IntN(len(numbers))] }
	spot := func() api.Spot { return api.Spot{X: roll(), Z: roll()} }
	mode := func() api.RayMode { return api.RayMode{Wedge: roll(), Metal: roll(), Skips: roll(), Thick: roll()} }
	list := func() []int {
		var l []int
		for range d.from(0, 7) {
			l = append(l, roll())
		}
		return l
	}
	image := func() []complex128 {
		var l []complex128
		for range d.from(0, 3) {
			l = append(l, complex(floats[d.IntN(len(floats))], floats[d.IntN(len(floats))]))
		}
		return l
	}
	task := func() api.FocusTask {
		x := two()
		for _, change := range []func(){
			func() { x.Array.Elements[d.IntN(2)] = spot() },
			func() { x.Array.Elements = nil },
			func() { x.Array.Out = mode() },
			func() { x.Array.Back = mode() },
			func() { x.Array.Times = api.Sampling{First: roll(), Step: roll()} },
			func() { x.Matrix.Elements = roll() },
			func() { x.Matrix.Buffer[d.IntN(256)] = float32(floats[d.IntN(len(floats))]) },
			func() { x.Matrix.Buffer = nil },
			func() { x.Grid.From = spot() },
			func() { x.Grid = api.FocusGrid{From: spot(), Columns: roll(), Rows: roll(), Step: roll()} },
		} {
			if d.from(0, 9) == 0 {
				change()
			}
		}
		return x
	}
	for range 5000 {
		x, cell, pair := task(), roll(), [2]int{roll(), roll()}
		powers := [][]int{nil, list(), {1, 2, 3, 4, 5, 6}, twoPowers()}[d.IntN(4)]
		focus.CheckGrid(x.Grid)
		focus.SpotAt(x.Grid, cell)
		focus.CheckTask(x)
		focus.NumberAt(x, cell, pair)
		focus.NumbersAt(x, cell, pair)
		focus.ValueAt(x, cell)
		focus.EndsAt(x, cell)
		focus.Image(x)
		focus.Share(x, list())
		focus.Merged([][]complex128{image(), image()})
		focus.CheckDeal(roll(), [][]int{list(), list()})
		focus.Dealt(x, [][]int{list(), list()})
		focus.Powers(image())
		focus.Peak(x.Grid, powers)
		focus.Peaks(x.Grid, powers)
		focus.Above(x.Grid, powers, roll())
		focus.DropOf(x.Grid, powers, api.FocusDrop{Cell: cell, Down: d.from(0, 1) == 0, Num: roll(), Den: roll()})
		focus.Coverage(x, list())
		focus.WithoutDead(x, list())
		focus.BestModes(x, [][2]api.RayMode{{mode(), x.Array.Out}, {x.Array.Out, mode()}})
		text, _ := focus.PrintPowers(x.Grid, powers)
		focus.ParsePowers(text[:d.IntN(len(text)+1)] + text[d.IntN(len(text)+1):])
	}
}

// TestP5Signs (R6) looks for -0 in values: samples of -0, and those that take each other away.
func TestP5Signs(t *testing.T) {
	x := two()
	for n := range x.Matrix.Buffer {
		x.Matrix.Buffer[n] = []float32{float32(minus()), 0, 5, -5}[n%4*(n/64%2)]
	}
	image, _ := focus.Image(x)
	share, _ := focus.Share(x, []int{0})
	dealt, _ := focus.Dealt(x, [][]int{{1}, {0}})
	dead, _ := focus.WithoutDead(x, []int{1})
	merged, _ := focus.Merged([][]complex128{{complex(minus(), minus()), complex(-5, 5)}, {complex(minus(), minus()), complex(5, -5)}})
	value, _, _ := focus.ValueAt(x, 0)
	for n, v := range slices.Concat(image, share, dealt, dead, merged, []complex128{value}) {
		if real(v) == 0 && math.Signbit(real(v)) || imag(v) == 0 && math.Signbit(imag(v)) {
			t.Errorf("-0 at %d", n)
		}
	}
}

// begin is a list of one number, with another one behind it.
func begin(n, behind int) []int { return []int{n, behind}[:1] }

// TestP5Memory (R3) writes into results, and behind them: arguments, and results of later calls, stay as they are.
func TestP5Memory(t *testing.T) {
	x := two()
	g := x.Grid
	powers := append(twoPowers(), 55)[:6]
	images := [][]complex128{{1, 2, 55}, {3, 4, 55}}
	images[0], images[1] = images[0][:2], images[1][:2]
	dead, firings := begin(1, 55), begin(0, 55)
	deal := [][]int{begin(1, 55), begin(0, 55)}
	modes := [][2]api.RayMode{{x.Array.Out, x.Array.Back}}
	values := func(l []complex128, e api.Errno) []int {
		var numbers []int
		for n := range l {
			numbers = append(numbers, int(real(l[n])), int(imag(l[n])))
			l[n] = 77
		}
		_ = append(l, 88)
		return numbers
	}
	whole := func(l []int, e api.Errno) []int {
		numbers := slices.Clone(l)
		for n := range l {
			l[n] += 77
		}
		_ = append(l, 88)
		return numbers
	}
	for n, result := range []func() []int{
		func() []int { return values(focus.Image(x)) },
		func() []int { return values(focus.Share(x, firings)) },
		func() []int { return values(focus.Merged(images)) },
		func() []int { return values(focus.Merged(images[:1])) },
		func() []int { return values(focus.Dealt(x, deal)) },
		func() []int { return values(focus.WithoutDead(x, dead)) },
		func() []int { return whole(focus.Coverage(x, dead)) },
		func() []int { return whole(focus.Powers(images[0])) },
		func() []int { return whole(focus.Peaks(g, powers)) },
		func() []int { return whole(focus.Above(g, powers, 0)) },
		func() []int {
			best, greatest, e := focus.BestModes(x, modes)
			return slices.Concat(whole(best, e), whole(greatest, e))
		},
		func() []int {
			_, l, _, e := focus.ParsePowers(twoText)
			return whole(l, e)
		},
	} {
		first := result()
		want(t, "a result again", result(), api.OK, first, api.OK)
		if len(first) == 0 || t.Failed() {
			t.Fatalf("the result %d is spoiled", n)
		}
	}
	want(t, "the task", x, api.OK, two(), api.OK)
	want(t, "the powers", powers[:7], api.OK, append(twoPowers(), 55), api.OK)
	want(t, "the images", [][]complex128{images[0][:3], images[1][:3]}, api.OK, [][]complex128{{1, 2, 55}, {3, 4, 55}}, api.OK)
	want(t, "the lists", [][]int{dead[:2], firings[:2], deal[0][:2], deal[1][:2]}, api.OK, [][]int{{1, 55}, {0, 55}, {1, 55}, {0, 55}}, api.OK)
}

// TestP5AtOnce (R4) makes images of one task at once: none disturbs the others.
func TestP5AtOnce(t *testing.T) {
	x := two()
	right, _ := focus.Image(x)
	results := make([][]complex128, 20)
	var calls sync.WaitGroup
	for n := range results {
		calls.Go(func() { results[n], _ = focus.Dealt(x, [][]int{{1}, {0}, {}}) })
	}
	calls.Wait()
	for _, l := range results {
		want(t, "Dealt at once", l, api.OK, right, api.OK)
	}
}
