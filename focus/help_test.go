package focus_test

import (
	"fmt"
	"math"
	"math/big"
	"math/rand/v2"
	"slices"
	"strconv"
	"testing"

	"couplant/api"
	"couplant/bench"
	"couplant/trace"
)

const (
	greatest = int(^uint(0) >> 1)
	smallest = -greatest - 1
)

// want compares a result and its error with those that are promised; an empty list is one that is nil, but -0 is not 0.
func want[T any](t *testing.T, what string, got T, e api.Errno, right T, f api.Errno) {
	t.Helper()
	if shown(got) != shown(right) || e != f {
		t.Errorf("%s: %s, error %d; want %s, error %d", what, shown(got), e, shown(right), f)
	}
}

// shown is a result in letters, also if it is bytes that are none.
func shown(result any) string {
	if s, isText := result.(string); isText {
		return strconv.Quote(s)
	}
	return fmt.Sprint(result)
}

// minus is -0.
func minus() float64 { return math.Copysign(0, -1) }

// one is the task of the chapter's examples: its number is 2, its value 30 - 20 i.
func one() api.FocusTask {
	m := api.RayMode{Wedge: 2500, Metal: 5000, Thick: 1000}
	t := api.FocusTask{
		Array:  api.BenchArray{Elements: []api.Spot{{Z: -300}}, Out: m, Back: m, Times: api.Sampling{First: 3900000, Step: 50000}},
		Matrix: api.FullMatrix{Elements: 1, Buffer: make([]float32, api.TraceSize)},
		Grid:   api.FocusGrid{From: api.Spot{Z: 400}, Columns: 1, Rows: 1, Step: 50},
	}
	t.Matrix.Buffer[2], t.Matrix.Buffer[3] = 30, -20
	return t
}

// firstAt is the task one whose sampling begins so that its echo is that of a number.
func firstAt(number int) api.FocusTask {
	t := one()
	t.Array.Times.First = 3999980 - number*t.Array.Times.Step
	return t
}

// two is a task with two elements, two modes and six cells; all of its samples differ.
func two() api.FocusTask {
	t := api.FocusTask{
		Array: api.BenchArray{
			Elements: []api.Spot{{X: -50, Z: -300}, {X: 70, Z: -200}},
			Out:      api.RayMode{Wedge: 2500, Metal: 5000, Thick: 1000},
			Back:     api.RayMode{Wedge: 2700, Metal: 5900, Skips: 1, Thick: 1000},
			Times:    api.Sampling{First: 4300000, Step: 40000},
		},
		Matrix: api.FullMatrix{Elements: 2},
		Grid:   api.FocusGrid{From: api.Spot{X: -60, Z: 300}, Columns: 3, Rows: 2, Step: 70},
	}
	for n := range 4 * api.TraceSize {
		t.Matrix.Buffer = append(t.Matrix.Buffer, float32((n*n*7+n)%501-250))
	}
	return t
}

// copied is a task with its own memory.
func copied(t api.FocusTask) api.FocusTask {
	t.Array.Elements = slices.Clone(t.Array.Elements)
	t.Matrix.Buffer = slices.Clone(t.Matrix.Buffer)
	return t
}

// cells is how many cells a grid has.
func cells(g api.FocusGrid) int { return g.Columns * g.Rows }

// place is where a cell lies.
func place(g api.FocusGrid, cell int) api.Spot {
	return api.Spot{X: g.From.X + cell%g.Columns*g.Step, Z: g.From.Z + cell/g.Columns*g.Step}
}

// allElements is the numbers of the elements of a task.
func allElements(t api.FocusTask) []int {
	var l []int
	for n := range t.Array.Elements {
		l = append(l, n)
	}
	return l
}

// allPairs is the pairs of firings and receivers, by firings.
func allPairs(firings, receivers []int) [][2]int {
	var l [][2]int
	for _, f := range firings {
		for _, r := range receivers {
			l = append(l, [2]int{f, r})
		}
	}
	return l
}

// dice are numbers that are the same in each run.
type dice struct{ *rand.Rand }

func newDice(seed uint64) dice { return dice{rand.New(rand.NewPCG(seed, 5))} }

// from rolls a number from least to most.
func (d dice) from(least, most int) int { return least + d.IntN(most-least+1) }

// mode rolls a mode of a plate.
func (d dice) mode(thick int) api.RayMode {
	return api.RayMode{Wedge: d.from(2000, 4000), Metal: d.from(3000, 7000), Skips: d.from(0, 2), Thick: thick}
}

// task rolls a task whose numbers lie around the ends of the trace, and in it; with short steps the numbers that may be are many.
func (d dice) task() api.FocusTask {
	thick := d.from(20, 900)
	t := api.FocusTask{Array: api.BenchArray{Out: d.mode(thick), Back: d.mode(thick)}}
	for range d.from(1, 4) {
		t.Array.Elements = append(t.Array.Elements, api.Spot{X: d.from(-200, 200), Z: d.from(-400, -1)})
	}
	t.Matrix = d.matrix(len(t.Array.Elements), []int{0, 9, api.MaxSample}[d.IntN(3)])
	g := api.FocusGrid{From: api.Spot{X: d.from(-400, 400), Z: d.from(1, thick-1)}, Columns: d.from(1, 6), Rows: 1, Step: d.from(1, 60)}
	for g.Rows < 6 && g.From.Z+g.Rows*g.Step < thick && d.from(0, 3) > 0 {
		g.Rows++
	}
	t.Grid = g
	t.Array.Times.Step = []int{d.from(1, 9), d.from(1, 3000), d.from(3000, 90000)}[d.IntN(3)]
	echo, _ := bench.EchoAt(t.Array, place(g, d.IntN(cells(g))), [2]int{})
	t.Array.Times.First = max(0, echo-t.Array.Times.Step*d.from(-3, 66))
	return t
}

// matrix rolls a full matrix with samples up to a size.
func (d dice) matrix(elements, size int) api.FullMatrix {
	m := api.FullMatrix{Elements: elements}
	for range elements * elements * api.TraceSize {
		m.Buffer = append(m.Buffer, float32(d.from(-size, size)))
	}
	return m
}

// grid rolls a grid; most have few cells.
func (d dice) grid() api.FocusGrid {
	most := []int{1, 3, 5, 40}[d.IntN(4)]
	return api.FocusGrid{From: api.Spot{X: d.from(-100, 100), Z: d.from(-100, 100)}, Columns: d.from(1, most), Rows: d.from(1, most), Step: d.from(1, 1000)}
}

// powers rolls powers of a grid; those up to a small size have plateaus.
func (d dice) powers(g api.FocusGrid) []int {
	size := []int{0, 1, 3, 100, api.MaxPower}[d.IntN(5)]
	var l []int
	for range cells(g) {
		l = append(l, d.from(0, size))
	}
	return l
}

// some rolls which of the numbers below a count are taken, ascending.
func (d dice) some(count int) []int {
	var l []int
	for n := range count {
		if d.from(0, 1) == 0 {
			l = append(l, n)
		}
	}
	return l
}

// nearest is (time - First) / Step to the nearest whole number, halves up, by a half added and rounded down.
func nearest(s api.Sampling, time int) int {
	exact := big.NewRat(int64(time-s.First), int64(s.Step))
	exact.Add(exact, big.NewRat(1, 2))
	return int(new(big.Int).Div(exact.Num(), exact.Denom()).Int64())
}

// rightNumber is the number of a cell and a pair as the chapter defines it, and whether there is one.
func rightNumber(t api.FocusTask, cell int, pair [2]int) (int, bool) {
	echo, _ := bench.EchoAt(t.Array, place(t.Grid, cell), pair)
	n, e := trace.Nearest(t.Array.Times, echo)
	if e != api.OK || n > 60 {
		return 0, false
	}
	return n, true
}

// rightNumbers is the numbers that may be, wherever they lie.
func rightNumbers(t api.FocusTask, cell int, pair [2]int) api.Range {
	times, _ := bench.EchoRange(t.Array, place(t.Grid, cell), pair)
	return api.Range{Lo: nearest(t.Array.Times, times.Lo), Hi: nearest(t.Array.Times, times.Hi)}
}

// samplesOf is the analytic samples of a pair.
func samplesOf(t api.FocusTask, pair [2]int) [61]complex64 {
	x, _ := trace.TraceOf(t.Matrix, pair)
	samples, _ := trace.Analytic(x)
	return samples
}

// rightValue is the value of a cell, of some pairs alone, and how many of them have a number.
func rightValue(t api.FocusTask, cell int, pairs [][2]int) (complex128, int) {
	across, up, count := 0, 0, 0
	for _, pair := range pairs {
		if n, isThere := rightNumber(t, cell, pair); isThere {
			sample := samplesOf(t, pair)[n]
			across, up, count = across+int(real(sample)), up+int(imag(sample)), count+1
		}
	}
	return complex(float64(across), float64(up)), count
}

// rightImage is the values of all cells, of some pairs alone, and how many of these have a number.
func rightImage(t api.FocusTask, pairs [][2]int) ([]complex128, []int) {
	var values []complex128
	var counts []int
	for cell := range cells(t.Grid) {
		value, count := rightValue(t, cell, pairs)
		values, counts = append(values, value), append(counts, count)
	}
	return values, counts
}

// rightEnds is the ends of a value as the chapter defines them.
func rightEnds(t api.FocusTask, cell int) [2]api.Range {
	var ends [2]api.Range
	for _, pair := range allPairs(allElements(t), allElements(t)) {
		numbers := rightNumbers(t, cell, pair)
		samples := samplesOf(t, pair)
		var parts [2][]int
		for n, sample := range samples {
			if numbers.Lo <= n && n <= numbers.Hi {
				parts[0], parts[1] = append(parts[0], int(real(sample))), append(parts[1], int(imag(sample)))
			}
		}
		if numbers.Lo < 0 || numbers.Hi > 60 {
			parts[0], parts[1] = append(parts[0], 0), append(parts[1], 0)
		}
		for n, l := range parts {
			slices.Sort(l)
			ends[n].Lo += l[0]
			ends[n].Hi += l[len(l)-1]
		}
	}
	return ends
}

// tooFar are coordinates that places do not have.
func tooFar() []int { return []int{-100001, 100001, smallest, greatest} }

// wrongGrid is a grid with its error.
type wrongGrid struct {
	g     api.FocusGrid
	right api.Errno
}

func wrongGrids() []wrongGrid {
	var l []wrongGrid
	put := func(right api.Errno, change func(g *api.FocusGrid)) {
		g := two().Grid
		change(&g)
		l = append(l, wrongGrid{g, right})
	}
	put(api.ErrRange, func(g *api.FocusGrid) { *g = api.FocusGrid{} })
	for _, n := range tooFar() {
		put(api.ErrRange, func(g *api.FocusGrid) { g.From.X = n })
		put(api.ErrRange, func(g *api.FocusGrid) { g.From.Z = n })
	}
	for _, n := range []int{-1, 0, 41, smallest, greatest} {
		put(api.ErrRange, func(g *api.FocusGrid) { g.Columns = n })
		put(api.ErrRange, func(g *api.FocusGrid) { g.Rows = n })
		put(api.ErrRange, func(g *api.FocusGrid) { g.Columns, g.From.X = n, 100000 })
	}
	for _, n := range []int{-1, 0, 10001, smallest, greatest} {
		put(api.ErrRange, func(g *api.FocusGrid) { g.Step = n })
		put(api.ErrRange, func(g *api.FocusGrid) { g.Step, g.From.Z = n, 100000 })
	}
	put(api.ErrLarge, func(g *api.FocusGrid) { g.From.X = 100000 - 139 })
	put(api.ErrLarge, func(g *api.FocusGrid) { g.From.Z = 100000 - 69 })
	put(api.ErrLarge, func(g *api.FocusGrid) { g.From.X = 100000 })
	put(api.ErrLarge, func(g *api.FocusGrid) { g.From.Z = 100000 })
	put(api.ErrLarge, func(g *api.FocusGrid) { g.Columns, g.Step = 40, 10000 })
	put(api.ErrLarge, func(g *api.FocusGrid) { g.Rows, g.Step = 40, 10000 })
	put(api.ErrLarge, func(g *api.FocusGrid) { g.Columns, g.Step, g.From.X = 21, 10000, -99999 })
	return l
}

// wrongTask is a task with its error, and the number beside this.
type wrongTask struct {
	t      api.FocusTask
	number int
	right  api.Errno
}

// wrongTasks are tasks that have one wrong part each, and some with more of them.
func wrongTasks() []wrongTask {
	var l []wrongTask
	put := func(number int, right api.Errno, change func(t *api.FocusTask)) {
		t := two()
		change(&t)
		l = append(l, wrongTask{t, number, right})
	}
	// What stands behind the array does not matter then.
	putArray := func(number int, right api.Errno, change func(a *api.BenchArray)) {
		put(number, right, func(t *api.FocusTask) { change(&t.Array) })
		put(number, right, func(t *api.FocusTask) { change(&t.Array); t.Matrix, t.Grid = api.FullMatrix{}, api.FocusGrid{} })
	}
	putArray(0, api.ErrShape, func(a *api.BenchArray) { a.Elements = nil })
	putArray(0, api.ErrLarge, func(a *api.BenchArray) { a.Elements = make([]api.Spot, 17) })
	putArray(1, api.ErrRange, func(a *api.BenchArray) { a.Elements[1].X = 100001 })
	putArray(1, api.ErrKind, func(a *api.BenchArray) { a.Elements[1].Z = 0 })
	putArray(0, api.ErrKind, func(a *api.BenchArray) { a.Elements[0].Z = 5 })
	putArray(0, api.ErrRange, func(a *api.BenchArray) { a.Out.Metal = 499 })
	putArray(0, api.ErrRange, func(a *api.BenchArray) { a.Back.Skips = 5 })
	putArray(0, api.ErrUnit, func(a *api.BenchArray) { a.Back.Thick = 1001 })
	putArray(0, api.ErrRange, func(a *api.BenchArray) { a.Times.Step = 0 })
	// What stands behind the matrix does not.
	putMatrix := func(right api.Errno, change func(m *api.FullMatrix)) {
		put(0, right, func(t *api.FocusTask) { change(&t.Matrix) })
		put(0, right, func(t *api.FocusTask) { change(&t.Matrix); t.Grid = api.FocusGrid{} })
	}
	putMatrix(api.ErrRange, func(m *api.FullMatrix) { *m = api.FullMatrix{} })
	putMatrix(api.ErrRange, func(m *api.FullMatrix) { m.Elements = 17 })
	putMatrix(api.ErrRange, func(m *api.FullMatrix) { m.Elements = smallest })
	putMatrix(api.ErrShape, func(m *api.FullMatrix) { m.Elements = 1 })
	putMatrix(api.ErrShape, func(m *api.FullMatrix) { m.Buffer = m.Buffer[1:] })
	putMatrix(api.ErrWhole, func(m *api.FullMatrix) { m.Buffer[255] = 0.5 })
	putMatrix(api.ErrWhole, func(m *api.FullMatrix) { m.Buffer[7] = float32(math.NaN()) })
	putMatrix(api.ErrRange, func(m *api.FullMatrix) { m.Buffer[7] = 2048 })
	putMatrix(api.ErrClash, func(m *api.FullMatrix) { m.Elements, m.Buffer = 1, m.Buffer[:64] })
	putMatrix(api.ErrClash, func(m *api.FullMatrix) { m.Elements, m.Buffer = 3, make([]float32, 9*64) })
	put(0, api.ErrWhole, func(t *api.FocusTask) {
		t.Matrix = api.FullMatrix{Elements: 1, Buffer: make([]float32, 64)}
		t.Matrix.Buffer[3] = 0.5
	})
	for _, x := range wrongGrids() {
		put(0, x.right, func(t *api.FocusTask) { t.Grid = x.g })
	}
	for _, z := range []int{0, -1, 930, 931, 1000, 5000, -100000} {
		put(0, api.ErrBreak, func(t *api.FocusTask) { t.Grid.From.Z = z })
	}
	put(0, api.ErrBreak, func(t *api.FocusTask) { t.Grid.Rows = 11 })
	put(0, api.ErrLarge, func(t *api.FocusTask) { t.Grid.From = api.Spot{X: 100000, Z: -5} })
	return l
}

// wrongPairs are pairs that two elements do not have.
func wrongPairs() [][2]int {
	return [][2]int{{0, 2}, {2, 0}, {-1, 0}, {0, -1}, {2, 2}, {smallest, 1}, {1, smallest}, {greatest, 0}, {0, greatest}, {1 << 32, 0}}
}

// wrongCells are cells that a grid of six does not have.
func wrongCells() []int { return []int{-1, 6, 7, smallest, greatest, 1 << 32} }

// wrongPowers is powers of the grid of two, with their error.
type wrongPowers struct {
	powers []int
	right  api.Errno
}

func wrongPowersOfTwo() []wrongPowers {
	return []wrongPowers{
		{nil, api.ErrShape},
		{[]int{1, 2, 3, 4, 5}, api.ErrShape},
		{[]int{1, 2, 3, 4, 5, 6, 7}, api.ErrShape},
		{[]int{-1, 2, 3, 4, 5}, api.ErrShape},
		{make([]int, 1600), api.ErrShape},
		{[]int{1, 2, 3, 4, 5, -1}, api.ErrRange},
		{[]int{api.MaxPower + 1, 2, 3, 4, 5, 6}, api.ErrRange},
		{[]int{1, smallest, 3, 4, 5, 6}, api.ErrRange},
		{[]int{1, 2, greatest, 4, 5, 6}, api.ErrRange},
	}
}

// wrongDead is dead elements of an array of two, with their error.
type wrongDead struct {
	dead  []int
	right api.Errno
}

func wrongDeads() []wrongDead {
	return []wrongDead{
		{[]int{-1}, api.ErrMissing},
		{[]int{2}, api.ErrMissing},
		{[]int{0, 1, 2}, api.ErrMissing},
		{[]int{smallest}, api.ErrMissing},
		{[]int{0, greatest}, api.ErrMissing},
		{[]int{0, 0}, api.ErrOrder},
		{[]int{1, 0}, api.ErrOrder},
		{[]int{1, 0, 2}, api.ErrOrder},
		{[]int{1, -1}, api.ErrMissing},
		{[]int{0, 2, 1}, api.ErrMissing},
	}
}
