package law_test

import (
	"fmt"
	"math/big"
	"math/rand/v2"
	"slices"
	"strings"
	"testing"

	"couplant/api"
)

const (
	greatest = int(^uint(0) >> 1)
	smallest = -greatest - 1
)

// want compares a result and its error with those that are promised; an empty list is one that is nil.
func want[T any](t *testing.T, what string, got T, e api.Errno, right T, f api.Errno) {
	t.Helper()
	if fmt.Sprint(got) != fmt.Sprint(right) || e != f {
		t.Errorf("%s: %v, error %d; want %v, error %d", what, got, e, right, f)
	}
}

// wantError compares errors alone.
func wantError(t *testing.T, what string, e, f api.Errno) {
	t.Helper()
	if e != f {
		t.Errorf("%s: error %d; want %d", what, e, f)
	}
}

// two is an array of two elements, one above the other one.
func two() api.LawArray {
	return api.LawArray{Elements: []api.Spot{{Z: -300}, {Z: -600}}, Mode: api.RayMode{Wedge: 2500, Metal: 5000, Thick: 1000}, Clock: 1000}
}

// focus is a place below both of them.
func focus() api.Spot { return api.Spot{Z: 400} }

// ticks is a law with the clock 1000.
func ticks(l ...int) api.DelayLaw { return api.DelayLaw{Clock: 1000, Ticks: l} }

// none is what stands beside an error of a law.
func none() api.DelayLaw { return api.DelayLaw{} }

// dice are numbers that are the same in each run.
type dice struct{ *rand.Rand }

func newDice(seed uint64) dice { return dice{rand.New(rand.NewPCG(seed, 2))} }

// from rolls a number from least to most.
func (d dice) from(least, most int) int { return least + d.IntN(most-least+1) }

// array rolls an array, and a place in its plate.
func (d dice) array() (api.LawArray, api.Spot) {
	a := api.LawArray{Clock: d.from(1, 5000)}
	a.Mode = api.RayMode{Wedge: d.from(api.LeastSpeed, api.MaxSpeed), Metal: d.from(api.LeastSpeed, api.MaxSpeed), Skips: d.from(0, api.MaxSkips), Thick: d.from(2, 3000)}
	for range d.from(1, api.MaxElements) {
		a.Elements = append(a.Elements, api.Spot{X: d.from(-900, 900), Z: d.from(-900, -1)})
	}
	return a, api.Spot{X: d.from(-1500, 1500), Z: d.from(1, a.Mode.Thick-1)}
}

// law rolls a law for so many elements, of which some do not send.
func (d dice) law(elements int) api.DelayLaw {
	l := api.DelayLaw{Clock: d.from(1, 5000)}
	for range elements {
		l.Ticks = append(l.Ticks, max(-1, d.from(-900, 3000)))
	}
	return l
}

// sends tells whether an element of a law sends.
func sends(l api.DelayLaw) bool { return slices.Max(l.Ticks) >= 0 }

// rightRounded is num / den to the nearest whole number, halves up, by a half added and rounded down.
func rightRounded(num, den *big.Int) int {
	twice := new(big.Int).Lsh(num, 1)
	return int(twice.Add(twice, den).Div(twice, new(big.Int).Lsh(den, 1)).Int64())
}

func number(n int) *big.Int { return big.NewInt(int64(n)) }

// product multiplies numbers of any size.
func product(l ...int) *big.Int {
	p := number(1)
	for _, n := range l {
		p.Mul(p, number(n))
	}
	return p
}

// wrongArray is an array with its error, and the number beside this.
type wrongArray struct {
	a      api.LawArray
	number int
	right  api.Errno
}

// wrongArrays are arrays with one wrong part each, and some with more of them.
func wrongArrays() []wrongArray {
	var l []wrongArray
	put := func(number int, right api.Errno, change func(a *api.LawArray)) {
		a := two()
		change(&a)
		l = append(l, wrongArray{a, number, right})
	}
	put(0, api.ErrShape, func(a *api.LawArray) { a.Elements = nil })
	put(0, api.ErrShape, func(a *api.LawArray) { a.Elements = []api.Spot{} })
	put(0, api.ErrShape, func(a *api.LawArray) { *a = api.LawArray{} })
	put(0, api.ErrLarge, func(a *api.LawArray) { a.Elements = slices.Repeat(a.Elements[:1], 17) })
	put(0, api.ErrLarge, func(a *api.LawArray) { a.Elements = make([]api.Spot, 17) })
	for _, n := range []int{-100001, 100001, smallest, greatest} {
		put(0, api.ErrRange, func(a *api.LawArray) { a.Elements[0].X = n })
		put(1, api.ErrRange, func(a *api.LawArray) { a.Elements[1].X = n })
		put(1, api.ErrRange, func(a *api.LawArray) { a.Elements[1].Z = n })
		put(1, api.ErrRange, func(a *api.LawArray) { a.Elements[1] = api.Spot{X: n, Z: 5} })
		put(0, api.ErrKind, func(a *api.LawArray) { a.Elements[0].Z, a.Elements[1].X = 0, n })
	}
	put(0, api.ErrKind, func(a *api.LawArray) { a.Elements[0].Z = 0 })
	put(1, api.ErrKind, func(a *api.LawArray) { a.Elements[1].Z = 0 })
	put(1, api.ErrKind, func(a *api.LawArray) { a.Elements[1].Z = 100000 })
	put(1, api.ErrKind, func(a *api.LawArray) { a.Elements[1].Z, a.Mode.Thick, a.Clock = 1, 0, 0 })
	for _, speed := range []int{499, 10001} {
		put(0, api.ErrRange, func(a *api.LawArray) { a.Mode.Wedge = speed })
		put(0, api.ErrRange, func(a *api.LawArray) { a.Mode.Metal = speed })
	}
	for _, n := range []int{-1, 5} {
		put(0, api.ErrRange, func(a *api.LawArray) { a.Mode.Skips = n })
	}
	for _, n := range []int{1, 20001, smallest} {
		put(0, api.ErrRange, func(a *api.LawArray) { a.Mode.Thick = n })
	}
	for _, clock := range wrongClocks() {
		put(0, api.ErrRange, func(a *api.LawArray) { a.Clock = clock })
	}
	return l
}

func wrongClocks() []int { return []int{0, -1, 1000001, smallest, greatest} }

// wrongLaw is a law with its error, and the number beside this.
type wrongLaw struct {
	l      api.DelayLaw
	number int
	right  api.Errno
}

func wrongLaws() []wrongLaw {
	l := []wrongLaw{
		{ticks(), 0, api.ErrShape},
		{api.DelayLaw{Clock: 1000, Ticks: []int{}}, 0, api.ErrShape},
		{ticks(make([]int, 17)...), 0, api.ErrLarge},
		{ticks(slices.Repeat([]int{-2}, 17)...), 0, api.ErrLarge},
		{ticks(-2, 1000001), 0, api.ErrRange},
	}
	for _, n := range []int{-2, 1000001, smallest, greatest} {
		l = append(l, wrongLaw{ticks(n, 0), 0, api.ErrRange}, wrongLaw{ticks(0, n), 1, api.ErrRange})
	}
	for _, clock := range wrongClocks() {
		l = append(l,
			wrongLaw{api.DelayLaw{Clock: clock, Ticks: []int{0, 0}}, 0, api.ErrRange},
			wrongLaw{api.DelayLaw{Clock: clock}, 0, api.ErrRange},
			wrongLaw{api.DelayLaw{Clock: clock, Ticks: make([]int, 17)}, 0, api.ErrRange},
			wrongLaw{api.DelayLaw{Clock: clock, Ticks: []int{0, -2}}, 0, api.ErrRange})
	}
	return l
}

// wrongPlace is a place of the array two with its error.
type wrongPlace struct {
	at    api.Spot
	right api.Errno
}

func wrongPlaces() []wrongPlace {
	l := []wrongPlace{
		{api.Spot{Z: 0}, api.ErrBreak},
		{api.Spot{Z: -1}, api.ErrBreak},
		{api.Spot{Z: 1000}, api.ErrBreak},
		{api.Spot{X: 5, Z: 100000}, api.ErrBreak},
	}
	for _, n := range []int{-100001, 100001, smallest, greatest} {
		l = append(l,
			wrongPlace{api.Spot{X: n, Z: 400}, api.ErrRange},
			wrongPlace{api.Spot{X: n, Z: 1000}, api.ErrRange},
			wrongPlace{api.Spot{Z: n}, api.ErrRange})
	}
	return l
}

// words puts single blanks between words.
func words(l ...string) string { return strings.Join(l, " ") }
