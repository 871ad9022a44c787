package bench_test

import (
	"fmt"
	"math"
	"math/big"
	"math/rand/v2"
	"slices"
	"strconv"
	"testing"

	"couplant/api"
	"couplant/ray"
)

const (
	greatest = int(^uint(0) >> 1)
	smallest = -greatest - 1
)

// want compares a result and its error with those that are promised; an empty list is one that is nil, but -0 is not 0.
func want[T any](t *testing.T, what string, got T, e api.Errno, right T, f api.Errno) {
	t.Helper()
	if shown(got) != shown(right) || e != f {
		t.Errorf("%s: %s, error %d; want %s, error %d", what, shown(got), e, shown(right), f)
	}
}

// shown is a result in letters, also if it is bytes that are none.
func shown(result any) string {
	if s, isText := result.(string); isText {
		return strconv.Quote(s)
	}
	return fmt.Sprint(result)
}

// wantError compares errors alone.
func wantError(t *testing.T, what string, e, f api.Errno) {
	t.Helper()
	if e != f {
		t.Errorf("%s: error %d; want %d", what, e, f)
	}
}

// minus is -0.
func minus() float32 { return float32(math.Copysign(0, -1)) }

// one is the specimen of the chapter's examples.
func one() api.BenchSpecimen {
	m := api.RayMode{Wedge: 2500, Metal: 5000, Thick: 1000}
	return api.BenchSpecimen{
		Array: api.BenchArray{Elements: []api.Spot{{Z: -300}}, Out: m, Back: m, Times: api.Sampling{First: 3900000, Step: 50000}},
		Pulse: []int{3, -2},
		Flaws: []api.BenchFlaw{pore(0, 400, 10)},
	}
}

// two is a specimen with two elements, two modes and two flaws, all of whose echoes lie in the trace.
func two() api.BenchSpecimen {
	return api.BenchSpecimen{
		Array: api.BenchArray{
			Elements: []api.Spot{{X: -50, Z: -300}, {X: 70, Z: -200}},
			Out:      api.RayMode{Wedge: 2500, Metal: 5000, Thick: 1000},
			Back:     api.RayMode{Wedge: 2700, Metal: 5900, Skips: 1, Thick: 1000},
			Times:    api.Sampling{First: 4800000, Step: 40000},
		},
		Pulse: []int{3, 0, -2},
		Flaws: []api.BenchFlaw{pore(0, 400, 10), plane(api.Spot{X: -30, Z: 500}, api.Spot{X: 45, Z: 450}, 4, 5, -7)},
	}
}

func pore(x, z, amplitude int) api.BenchFlaw {
	return api.BenchFlaw{Kind: api.BenchPore, From: api.Spot{X: x, Z: z}, Amplitude: amplitude}
}

func plane(from, to api.Spot, pieces, amplitude, tip int) api.BenchFlaw {
	return api.BenchFlaw{Kind: api.BenchPlane, From: from, To: to, Pieces: pieces, Amplitude: amplitude, Tip: tip}
}

// copied is a specimen with its own memory.
func copied(s api.BenchSpecimen) api.BenchSpecimen {
	s.Array.Elements = slices.Clone(s.Array.Elements)
	s.Pulse = slices.Clone(s.Pulse)
	s.Flaws = slices.Clone(s.Flaws)
	return s
}

// loud is the example with so many flaws like its own, whose greatest sample is 3 times the amplitude each.
func loud(flaws, amplitude int) api.BenchSpecimen {
	s := one()
	s.Flaws = slices.Repeat([]api.BenchFlaw{pore(0, 400, amplitude)}, flaws)
	return s
}

// dice are numbers that are the same in each run.
type dice struct{ *rand.Rand }

func newDice(seed uint64) dice { return dice{rand.New(rand.NewPCG(seed, 4))} }

// from rolls a number from least to most.
func (d dice) from(least, most int) int { return least + d.IntN(most-least+1) }

// mode rolls a mode of a plate.
func (d dice) mode(thick int) api.RayMode {
	return api.RayMode{Wedge: d.from(2000, 4000), Metal: d.from(3000, 7000), Skips: d.from(0, 2), Thick: thick}
}

// place rolls a place in a plate.
func (d dice) place(thick int) api.Spot {
	return api.Spot{X: d.from(-400, 400), Z: d.from(1, thick-1)}
}

// specimen rolls a specimen whose echoes lie around the ends of the trace, and in it; none of its samples is too large.
func (d dice) specimen() api.BenchSpecimen {
	thick := d.from(20, 900)
	s := api.BenchSpecimen{Array: api.BenchArray{Out: d.mode(thick), Back: d.mode(thick)}}
	for range d.from(1, 3) {
		s.Array.Elements = append(s.Array.Elements, api.Spot{X: d.from(-200, 200), Z: d.from(-400, -1)})
	}
	for range d.from(1, 5) {
		s.Pulse = append(s.Pulse, d.from(-4, 4))
	}
	for range d.from(0, 3) {
		s.Flaws = append(s.Flaws, d.flaw(thick))
	}
	s.Array.Times.Step = d.from(1, 90000)
	early := rightEcho(s.Array, d.place(thick), [2]int{}) - s.Array.Times.Step*d.from(-3, 66)
	s.Array.Times.First = max(0, early)
	return s
}

// flaw rolls a right flaw in a plate.
func (d dice) flaw(thick int) api.BenchFlaw {
	f := api.BenchFlaw{From: d.place(thick), Amplitude: d.from(-9, 9)}
	if d.from(0, 1) == 0 {
		f.Kind, f.To, f.Pieces, f.Tip = api.BenchPlane, d.place(thick), d.from(1, api.MaxBenchPieces), d.from(-9, 9)
		if f.To == f.From {
			f.To.X++
		}
	}
	return f
}

// nearest is num / den to the nearest whole number, halves up, by a half added and rounded down.
func nearest(num, den int) int {
	exact := big.NewRat(int64(num), int64(den))
	exact.Add(exact, big.NewRat(1, 2))
	return int(new(big.Int).Div(exact.Num(), exact.Denom()).Int64())
}

// rightEcho is the echo as the chapter defines it.
func rightEcho(a api.BenchArray, at api.Spot, pair [2]int) int {
	out, _ := ray.RoundedTime(a.Out, a.Elements[pair[0]], at)
	back, _ := ray.RoundedTime(a.Back, a.Elements[pair[1]], at)
	return out + back
}

// rightSample is the sample number as the chapter defines it.
func rightSample(a api.BenchArray, at api.Spot, pair [2]int) int {
	return nearest(rightEcho(a, at, pair)-a.Times.First, a.Times.Step)
}

// rightPoints is the points of a flaw as the chapter defines them: both coordinates as they are, and rounded then.
func rightPoints(f api.BenchFlaw) []api.BenchPoint {
	if f.Kind == api.BenchPore {
		return []api.BenchPoint{{At: f.From, Amplitude: f.Amplitude}}
	}
	var l []api.BenchPoint
	for k := 0; k <= f.Pieces; k++ {
		x := nearest(f.From.X*(f.Pieces-k)+f.To.X*k, f.Pieces)
		z := nearest(f.From.Z*(f.Pieces-k)+f.To.Z*k, f.Pieces)
		l = append(l, api.BenchPoint{At: api.Spot{X: x, Z: z}, Amplitude: f.Amplitude})
	}
	l[0].Amplitude, l[f.Pieces].Amplitude = f.Tip, f.Tip
	return l
}

// rightTrace is the trace of a specimen as the chapter defines it, in sums of whole numbers.
func rightTrace(s api.BenchSpecimen, pair [2]int) api.Trace {
	sums := map[int]int{}
	for _, f := range s.Flaws {
		for _, p := range rightPoints(f) {
			first := rightSample(s.Array, p.At, pair)
			for behind, part := range s.Pulse {
				sums[first+behind] += p.Amplitude * part
			}
		}
	}
	var t api.Trace
	for n := range t {
		t[n] = float32(sums[n])
	}
	return t
}

// rightMatrix is the traces of all pairs, one behind the other.
func rightMatrix(s api.BenchSpecimen) api.FullMatrix {
	m := api.FullMatrix{Elements: len(s.Array.Elements)}
	for _, pair := range allPairs(s.Array) {
		t := rightTrace(s, pair)
		m.Buffer = append(m.Buffer, t[:]...)
	}
	return m
}

// allPairs is the pairs of an array, by firings, then by receivers.
func allPairs(a api.BenchArray) [][2]int {
	var l [][2]int
	for f := range a.Elements {
		for r := range a.Elements {
			l = append(l, [2]int{f, r})
		}
	}
	return l
}

// tooFar are coordinates that places do not have.
func tooFar() []int { return []int{-100001, 100001, smallest, greatest} }

// wrongSpecimen is a specimen with its error, and the number beside this.
type wrongSpecimen struct {
	s      api.BenchSpecimen
	number int
	right  api.Errno
}

// wrongArrays are specimens whose arrays have one wrong part each, and some with more of them.
func wrongArrays() []wrongSpecimen {
	var l []wrongSpecimen
	put := func(number int, right api.Errno, change func(a *api.BenchArray)) {
		s := two()
		change(&s.Array)
		l = append(l, wrongSpecimen{s, number, right})
		// What stands behind the array does not matter then.
		s.Pulse, s.Flaws = nil, make([]api.BenchFlaw, 11)
		l = append(l, wrongSpecimen{s, number, right})
	}
	put(0, api.ErrShape, func(a *api.BenchArray) { a.Elements = nil })
	put(0, api.ErrShape, func(a *api.BenchArray) { a.Elements = []api.Spot{} })
	put(0, api.ErrShape, func(a *api.BenchArray) { *a = api.BenchArray{} })
	put(0, api.ErrLarge, func(a *api.BenchArray) { a.Elements = slices.Repeat(a.Elements[:1], 17) })
	put(0, api.ErrLarge, func(a *api.BenchArray) { a.Elements = make([]api.Spot, 17) })
	for _, n := range tooFar() {
		put(0, api.ErrRange, func(a *api.BenchArray) { a.Elements[0].X = n })
		put(1, api.ErrRange, func(a *api.BenchArray) { a.Elements[1].X = n })
		put(1, api.ErrRange, func(a *api.BenchArray) { a.Elements[1].Z = n })
		put(1, api.ErrRange, func(a *api.BenchArray) { a.Elements[1] = api.Spot{X: n, Z: 5} })
		put(0, api.ErrKind, func(a *api.BenchArray) { a.Elements[0].Z, a.Elements[1].X = 0, n })
	}
	put(0, api.ErrKind, func(a *api.BenchArray) { a.Elements[0].Z = 0 })
	put(1, api.ErrKind, func(a *api.BenchArray) { a.Elements[1].Z = 100000 })
	put(1, api.ErrKind, func(a *api.BenchArray) { a.Elements[1].Z, a.Out.Thick, a.Times.Step = 1, 0, 0 })
	modes := []func(a *api.BenchArray) *api.RayMode{
		func(a *api.BenchArray) *api.RayMode { return &a.Out },
		func(a *api.BenchArray) *api.RayMode { return &a.Back },
	}
	for _, mode := range modes {
		for _, speed := range []int{499, 10001, smallest, greatest} {
			put(0, api.ErrRange, func(a *api.BenchArray) { mode(a).Wedge = speed })
			put(0, api.ErrRange, func(a *api.BenchArray) { mode(a).Metal = speed })
		}
		for _, skips := range []int{-1, 5} {
			put(0, api.ErrRange, func(a *api.BenchArray) { mode(a).Skips = skips })
		}
		for _, thick := range []int{1, 20001, smallest, greatest} {
			put(0, api.ErrRange, func(a *api.BenchArray) { mode(a).Thick = thick })
		}
		put(0, api.ErrUnit, func(a *api.BenchArray) { mode(a).Thick = 1001 })
		put(0, api.ErrUnit, func(a *api.BenchArray) { mode(a).Thick, a.Times.Step = 999, 0 })
		put(0, api.ErrRange, func(a *api.BenchArray) { a.Out.Thick, mode(a).Skips = 999, 5 })
	}
	for _, s := range []api.Sampling{{First: -1, Step: 1}, {First: api.MaxTime + 1, Step: 1}, {First: 1}, {First: 1, Step: -1}, {First: 1, Step: api.MaxStep + 1}, {First: smallest, Step: greatest}} {
		put(0, api.ErrRange, func(a *api.BenchArray) { a.Times = s })
	}
	return l
}

// wrongPulse is a pulse with its error.
type wrongPulse struct {
	pulse []int
	right api.Errno
}

func wrongPulses() []wrongPulse {
	return []wrongPulse{
		{nil, api.ErrShape},
		{[]int{}, api.ErrShape},
		{make([]int, 17), api.ErrLarge},
		{slices.Repeat([]int{101}, 17), api.ErrLarge},
		{[]int{101}, api.ErrRange},
		{[]int{-101}, api.ErrRange},
		{[]int{3, -2, smallest}, api.ErrRange},
		{[]int{3, greatest, 0}, api.ErrRange},
	}
}

// wrongFlaw is a flaw with its error.
type wrongFlaw struct {
	f     api.BenchFlaw
	right api.Errno
}

// wrongFlaws are flaws that CheckFlaw does not accept.
func wrongFlaws() []wrongFlaw {
	var l []wrongFlaw
	put := func(f api.BenchFlaw, right api.Errno, change func(f *api.BenchFlaw)) {
		change(&f)
		l = append(l, wrongFlaw{f, right})
	}
	hole, crack := two().Flaws[0], two().Flaws[1]
	for _, kind := range []int{-1, 2, smallest, greatest} {
		put(hole, api.ErrKind, func(f *api.BenchFlaw) { f.Kind = kind })
		put(crack, api.ErrKind, func(f *api.BenchFlaw) { f.Kind = kind })
		put(crack, api.ErrKind, func(f *api.BenchFlaw) { f.Kind, f.From.X, f.Amplitude = kind, 100001, 1001 })
	}
	for _, n := range tooFar() {
		for _, f := range []api.BenchFlaw{hole, crack} {
			put(f, api.ErrRange, func(f *api.BenchFlaw) { f.From.X = n })
			put(f, api.ErrRange, func(f *api.BenchFlaw) { f.From.Z = n })
		}
		put(hole, api.ErrRange, func(f *api.BenchFlaw) { f.From.X, f.To.X = n, 1 })
		put(hole, api.ErrForm, func(f *api.BenchFlaw) { f.To.X = n })
		put(crack, api.ErrRange, func(f *api.BenchFlaw) { f.To.X = n })
		put(crack, api.ErrRange, func(f *api.BenchFlaw) { f.To.Z = n })
	}
	for _, n := range []int{-1001, 1001, smallest, greatest} {
		put(hole, api.ErrRange, func(f *api.BenchFlaw) { f.Amplitude = n })
		put(hole, api.ErrRange, func(f *api.BenchFlaw) { f.Amplitude, f.Tip = n, 1 })
		put(hole, api.ErrForm, func(f *api.BenchFlaw) { f.Tip = n })
		put(crack, api.ErrRange, func(f *api.BenchFlaw) { f.Amplitude = n })
		put(crack, api.ErrRange, func(f *api.BenchFlaw) { f.Tip = n })
		put(crack, api.ErrRange, func(f *api.BenchFlaw) { f.Tip, f.To = n, f.From })
	}
	put(hole, api.ErrForm, func(f *api.BenchFlaw) { f.To.X = 1 })
	put(hole, api.ErrForm, func(f *api.BenchFlaw) { f.To.Z = -1 })
	put(hole, api.ErrForm, func(f *api.BenchFlaw) { f.To = f.From })
	put(hole, api.ErrForm, func(f *api.BenchFlaw) { f.Pieces = 1 })
	put(hole, api.ErrForm, func(f *api.BenchFlaw) { f.Tip = -1 })
	for _, n := range []int{-1, 0, 21, smallest, greatest} {
		put(crack, api.ErrRange, func(f *api.BenchFlaw) { f.Pieces = n })
		put(crack, api.ErrRange, func(f *api.BenchFlaw) { f.Pieces, f.To = n, f.From })
	}
	put(crack, api.ErrZero, func(f *api.BenchFlaw) { f.To = f.From })
	put(crack, api.ErrZero, func(f *api.BenchFlaw) { f.From, f.To = api.Spot{}, api.Spot{} })
	return l
}

// wrongSpecimens are specimens that CheckSpecimen does not accept.
func wrongSpecimens() []wrongSpecimen {
	l := wrongArrays()
	put := func(number int, right api.Errno, change func(s *api.BenchSpecimen)) {
		s := two()
		change(&s)
		l = append(l, wrongSpecimen{s, number, right})
	}
	for _, x := range wrongPulses() {
		put(0, x.right, func(s *api.BenchSpecimen) { s.Pulse = x.pulse })
		put(0, x.right, func(s *api.BenchSpecimen) { s.Pulse, s.Flaws = x.pulse, make([]api.BenchFlaw, 11) })
		put(0, x.right, func(s *api.BenchSpecimen) { s.Pulse, s.Flaws[1].Kind = x.pulse, 7 })
	}
	put(0, api.ErrLarge, func(s *api.BenchSpecimen) { s.Flaws = slices.Repeat(s.Flaws[:1], 11) })
	put(0, api.ErrLarge, func(s *api.BenchSpecimen) { s.Flaws = make([]api.BenchFlaw, 11) })
	for _, x := range wrongFlaws() {
		put(0, x.right, func(s *api.BenchSpecimen) { s.Flaws[0] = x.f })
		put(1, x.right, func(s *api.BenchSpecimen) { s.Flaws[1] = x.f })
		put(2, x.right, func(s *api.BenchSpecimen) { s.Flaws = append(s.Flaws, x.f, api.BenchFlaw{Kind: -1}) })
	}
	for _, z := range []int{-400, -1, 0, 1000, 1001, 100000} {
		put(0, api.ErrBreak, func(s *api.BenchSpecimen) { s.Flaws[0].From.Z = z })
		put(0, api.ErrBreak, func(s *api.BenchSpecimen) { s.Flaws[0].From.Z, s.Flaws[1].Kind = z, 7 })
		put(0, api.ErrForm, func(s *api.BenchSpecimen) { s.Flaws[0].From.Z, s.Flaws[0].Tip = z, 7 })
		put(1, api.ErrBreak, func(s *api.BenchSpecimen) { s.Flaws[1].From.Z = z })
		put(1, api.ErrBreak, func(s *api.BenchSpecimen) { s.Flaws[1].To.Z = z })
		put(1, api.ErrZero, func(s *api.BenchSpecimen) { s.Flaws[1].From.Z = z; s.Flaws[1].To = s.Flaws[1].From })
	}
	return l
}

// wrongPlace is a place of the specimens one and two with its error.
type wrongPlace struct {
	at    api.Spot
	right api.Errno
}

func wrongPlaces() []wrongPlace {
	l := []wrongPlace{
		{api.Spot{Z: 0}, api.ErrBreak},
		{api.Spot{Z: -1}, api.ErrBreak},
		{api.Spot{Z: 1000}, api.ErrBreak},
		{api.Spot{X: 5, Z: 100000}, api.ErrBreak},
		{api.Spot{X: -100000, Z: -100000}, api.ErrBreak},
	}
	for _, n := range tooFar() {
		l = append(l, wrongPlace{api.Spot{X: n, Z: 400}, api.ErrRange}, wrongPlace{api.Spot{X: n, Z: 1000}, api.ErrRange}, wrongPlace{api.Spot{Z: n}, api.ErrRange})
	}
	return l
}

// wrongPairs are pairs that two elements do not have.
func wrongPairs() [][2]int {
	return [][2]int{{0, 2}, {2, 0}, {-1, 0}, {0, -1}, {2, 2}, {smallest, 1}, {1, smallest}, {greatest, 0}, {0, greatest}, {1 << 32, 0}}
}
