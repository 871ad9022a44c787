package law_test

import (
	"math/big"
	"slices"
	"testing"

	"couplant/api"
	"couplant/law"
	"couplant/ray"
)

func TestP2_3Arrivals(t *testing.T) {
	upper, lower := api.Range{Lo: 1999981, Hi: 2000000}, api.Range{Lo: 3199988, Hi: 3200000}
	later := func(r api.Range, by int) api.Range { return api.Range{Lo: r.Lo + by, Hi: r.Hi + by} }
	for _, x := range []struct {
		l     api.DelayLaw
		right []api.Range
	}{
		{ticks(1200, 0), []api.Range{later(upper, 1200000), lower}},
		{ticks(0, 0), []api.Range{upper, lower}},
		{ticks(-1, 7), []api.Range{later(lower, 7000)}},
		{ticks(7, -1), []api.Range{later(upper, 7000)}},
		{ticks(-1, -1), nil},
		// The clock of the law counts, not that of the array.
		{api.DelayLaw{Clock: 3, Ticks: []int{7, 0}}, []api.Range{later(upper, 21), lower}},
		{api.DelayLaw{Clock: 1000000, Ticks: []int{1000000, 0}}, []api.Range{later(upper, 1000000000000), lower}},
	} {
		got, e := law.Arrivals(two(), x.l, focus())
		want(t, "Arrivals", got, e, x.right, api.OK)
	}
}

func TestP2_3Spread(t *testing.T) {
	for _, x := range []struct {
		l     api.DelayLaw
		right api.Range
		e     api.Errno
	}{
		{ticks(1200, 0), api.Range{Lo: 0, Hi: 19}, api.OK},
		{ticks(0, 0), api.Range{Lo: 1199988, Hi: 1200019}, api.OK},
		{ticks(2400, 0), api.Range{Lo: 1199981, Hi: 1200012}, api.OK},
		{ticks(7, -1), api.Range{Lo: 0, Hi: 19}, api.OK},
		{ticks(-1, 7), api.Range{Lo: 0, Hi: 12}, api.OK},
		{ticks(-1, -1), api.Range{}, api.ErrNone},
		// Limits of arguments do not hold for results.
		{api.DelayLaw{Clock: 1000000, Ticks: []int{0, 1000000}}, api.Range{Lo: 1000001199988, Hi: 1000001200019}, api.OK},
	} {
		got, e := law.Spread(two(), x.l, focus())
		want(t, "Spread", got, e, x.right, x.e)
	}
}

// rightArrivals is the arrivals as the chapter defines them.
func rightArrivals(a api.LawArray, l api.DelayLaw, at api.Spot) []api.Range {
	var arrivals []api.Range
	for n, p := range a.Elements {
		if l.Ticks[n] == -1 {
			continue
		}
		time, _ := ray.LeastTime(a.Mode, p, at)
		arrivals = append(arrivals, api.Range{Lo: time.Lo + l.Ticks[n]*l.Clock, Hi: time.Hi + l.Ticks[n]*l.Clock})
	}
	return arrivals
}

// rightSpread compares each arrival with each one: how far it is behind the other one at least, and at most.
func rightSpread(arrivals []api.Range) api.Range {
	var spread api.Range
	for _, late := range arrivals {
		for _, early := range arrivals {
			spread.Lo = max(spread.Lo, late.Lo-early.Hi)
			spread.Hi = max(spread.Hi, late.Hi-early.Lo)
		}
	}
	return spread
}

// TestP2_3Definition holds arrivals and spreads against the definitions.
func TestP2_3Definition(t *testing.T) {
	d := newDice(3)
	for range 1000 {
		a, at := d.array()
		l := d.law(len(a.Elements))
		right := rightArrivals(a, l, at)
		got, e := law.Arrivals(a, l, at)
		want(t, "Arrivals", got, e, right, api.OK)
		spread, e := law.Spread(a, l, at)
		if !sends(l) {
			want(t, "Spread of none", spread, e, api.Range{}, api.ErrNone)
			continue
		}
		want(t, "Spread", spread, e, rightSpread(right), api.OK)
	}
}

func TestP2_3ArrivalErrors(t *testing.T) {
	for _, x := range wrongPlaces() {
		for _, l := range []api.DelayLaw{ticks(1200, 0), ticks(-1, -1)} {
			arrivals, e := law.Arrivals(two(), l, x.at)
			want(t, "Arrivals at a wrong place", arrivals, e, nil, x.right)
			spread, e := law.Spread(two(), l, x.at)
			want(t, "Spread at a wrong place", spread, e, api.Range{}, x.right)
			n, e := law.BestAt(two(), l, []api.Spot{focus(), x.at, {}})
			want(t, "BestAt a wrong place", n, e, 0, x.right)
		}
	}
}

func TestP2_3LossOf(t *testing.T) {
	for _, x := range []struct{ spread, period, right int }{
		{100000, 1000000, 50},
		{0, 1, 0}, {0, 10000000, 0},
		{1, 10000000, 1},
		{1, 100, 1}, {2, 100, 2}, {3, 100, 5}, {100001, 1000000, 51}, {99999, 1000000, 50},
		{1000000, 1000000, 1000}, {1, 1, 1000}, {2, 1, 1000},
		// The square root of 999 / 5000 is 0.44698993, that of 1000 / 5000 is 0.44721360.
		{4469899, 10000000, 999}, {4469900, 10000000, 1000}, {4472135, 10000000, 1000}, {4472136, 10000000, 1000},
		{1000000000000, 10000000, 1000}, {1000000000000, 1, 1000}, {4294967296, 10000000, 1000}, {4294967296, 1, 1000},
	} {
		n, e := law.LossOf(x.spread, x.period)
		want(t, "LossOf", n, e, x.right, api.OK)
	}
	for _, x := range []struct{ spread, period int }{
		{-1, 5}, {1000000000001, 5}, {smallest, 5}, {greatest, 5}, {5, 0}, {5, -1}, {5, 10000001}, {5, smallest}, {5, greatest},
	} {
		n, e := law.LossOf(x.spread, x.period)
		want(t, "LossOf what is wrong", n, e, 0, api.ErrRange)
	}
}

// TestP2_3LossDefinition holds losses against the definition.
func TestP2_3LossDefinition(t *testing.T) {
	d := newDice(4)
	for range 10000 {
		period := d.from(1, []int{9, 1000, api.MaxPeriod}[d.IntN(3)])
		spread := d.from(0, []int{period/2 + 1, 2 * period, api.MaxTime}[d.IntN(3)])
		den := product(period, period)
		right := product(5000, spread, spread)
		right.Add(right, new(big.Int).Sub(den, number(1))).Div(right, den)
		if right.Cmp(number(1000)) > 0 {
			right = number(1000)
		}
		n, e := law.LossOf(spread, period)
		want(t, "LossOf", n, e, int(right.Int64()), api.OK)
	}
}

func TestP2_3BestAt(t *testing.T) {
	away, farther := api.Spot{X: 300, Z: 400}, api.Spot{X: 900, Z: 400}
	for _, x := range []struct {
		l      api.DelayLaw
		places []api.Spot
		right  int
	}{
		{ticks(1200, 0), []api.Spot{away, focus(), focus()}, 1},
		{ticks(1200, 0), []api.Spot{focus(), away}, 0},
		{ticks(1200, 0), []api.Spot{farther, away}, 1},
		{ticks(1200, 0), []api.Spot{away}, 0},
		{ticks(1200, 0), append(slices.Repeat([]api.Spot{away}, 19), focus()), 19},
		// Deeper places have a narrower enclosure.
		{ticks(-1, 0), []api.Spot{{Z: 1}, {Z: 999}}, 1},
		{ticks(0, -1), []api.Spot{away, away, away}, 0},
	} {
		n, e := law.BestAt(two(), x.l, x.places)
		want(t, "BestAt", n, e, x.right, api.OK)
	}
}

// TestP2_3BestDefinition compares the places with each other.
func TestP2_3BestDefinition(t *testing.T) {
	d := newDice(5)
	for range 500 {
		a, at := d.array()
		l, _ := law.FocusLaw(a, at)
		if l.Clock == 0 {
			continue
		}
		var places []api.Spot
		for range d.from(1, api.MaxFoci) {
			places = append(places, api.Spot{X: at.X + d.from(-9, 9), Z: min(a.Mode.Thick-1, at.Z+d.from(0, 9))})
		}
		right, least := 0, greatest
		for n, p := range places {
			if end := rightSpread(rightArrivals(a, l, p)).Hi; end < least {
				right, least = n, end
			}
		}
		n, e := law.BestAt(a, l, places)
		want(t, "BestAt", n, e, right, api.OK)
	}
}

func TestP2_3BestErrors(t *testing.T) {
	many := slices.Repeat([]api.Spot{focus()}, 21)
	wrong := api.Spot{Z: 1000}
	for _, x := range []struct {
		places []api.Spot
		l      api.DelayLaw
		right  api.Errno
	}{
		{nil, ticks(1200, 0), api.ErrShape},
		{[]api.Spot{}, ticks(-1, -1), api.ErrShape},
		{many, ticks(1200, 0), api.ErrLarge},
		{append([]api.Spot{wrong}, many...), ticks(-1, -1), api.ErrLarge},
		{[]api.Spot{focus(), wrong, {X: 100001}}, ticks(-1, -1), api.ErrBreak},
		{[]api.Spot{focus(), {X: 100001}, wrong}, ticks(-1, -1), api.ErrRange},
		{[]api.Spot{focus()}, ticks(-1, -1), api.ErrNone},
	} {
		n, e := law.BestAt(two(), x.l, x.places)
		want(t, "BestAt", n, e, 0, x.right)
	}
	n, e := law.BestAt(two(), ticks(1200, 0), many[:20])
	want(t, "BestAt of twenty", n, e, 0, api.OK)
}

func TestP2_3Coarsest(t *testing.T) {
	for _, x := range []struct {
		clocks []int
		most   int
		right  int
		e      api.Errno
	}{
		{[]int{1000}, 19, 1000, api.OK},
		{[]int{1000}, 18, 0, api.ErrNone},
		{[]int{100, 1000}, 19, 1000, api.OK},
		// 1714 ticks of 700 are 1199800: 200 less than the difference.
		{[]int{700, 1000}, 19, 1000, api.OK},
		{[]int{300, 1000, 700000}, 19, 1000, api.OK},
		{[]int{300, 700}, 218, 300, api.OK},
		{[]int{300, 700}, 219, 700, api.OK},
		{[]int{300, 700}, 0, 0, api.ErrNone},
		{[]int{700, 1000000}, 1000000000000, 1000000, api.OK},
		// With a clock of 1 there are too many ticks.
		{[]int{1}, 1000000000000, 0, api.ErrNone},
		{[]int{1, 2}, 1000000000000, 2, api.OK},
		{[]int{1, 700}, 18, 0, api.ErrNone},
	} {
		n, e := law.Coarsest(two(), focus(), api.LawClocks{Clocks: x.clocks, Most: x.most})
		want(t, "Coarsest", n, e, x.right, x.e)
	}
}

// TestP2_3CoarsestDefinition tries all clocks.
func TestP2_3CoarsestDefinition(t *testing.T) {
	d := newDice(6)
	for range 300 {
		a, at := d.array()
		x := api.LawClocks{Most: d.from(0, 5000)}
		for clock := d.from(1, 900); clock <= api.MaxClock && len(x.Clocks) < api.MaxFoci; clock += d.from(1, 900) {
			x.Clocks = append(x.Clocks, clock)
		}
		right, f := 0, api.ErrNone
		for _, clock := range x.Clocks {
			other := a
			other.Clock = clock
			l, e := law.FocusLaw(other, at)
			if e == api.OK && rightSpread(rightArrivals(a, l, at)).Hi <= x.Most {
				right, f = clock, api.OK
			}
		}
		n, e := law.Coarsest(a, at, x)
		want(t, "Coarsest", n, e, right, f)
	}
}

func TestP2_3CoarsestErrors(t *testing.T) {
	var many []int
	for n := range 21 {
		many = append(many, 1000*(n+1))
	}
	for _, x := range []struct {
		clocks []int
		most   int
		right  api.Errno
	}{
		{nil, 19, api.ErrShape},
		{[]int{}, -1, api.ErrShape},
		{many, 19, api.ErrLarge},
		{make([]int, 21), -1, api.ErrLarge},
		{[]int{0}, 19, api.ErrRange},
		{[]int{1000, 1000001}, 19, api.ErrRange},
		{[]int{1000, 1000}, 19, api.ErrOrder},
		{[]int{1000, 999}, -1, api.ErrOrder},
		{[]int{1000, 0}, 19, api.ErrRange},
		{[]int{1000, 999, 0}, 19, api.ErrOrder},
		{[]int{1000, 0, 0}, 19, api.ErrRange},
		{[]int{1000}, -1, api.ErrRange},
		{[]int{1000}, 1000000000001, api.ErrRange},
		{[]int{1}, smallest, api.ErrRange},
		{[]int{1}, greatest, api.ErrRange},
	} {
		n, e := law.Coarsest(two(), focus(), api.LawClocks{Clocks: x.clocks, Most: x.most})
		want(t, "Coarsest", n, e, 0, x.right)
	}
	n, e := law.Coarsest(two(), focus(), api.LawClocks{Clocks: many[:20], Most: 19})
	want(t, "Coarsest of twenty", n, e, 20000, api.OK)
	for _, clock := range wrongClocks() {
		n, e := law.Coarsest(two(), focus(), api.LawClocks{Clocks: []int{clock}, Most: 19})
		want(t, "Coarsest of a wrong clock", n, e, 0, api.ErrRange)
	}
	for _, x := range wrongPlaces() {
		n, e := law.Coarsest(two(), x.at, api.LawClocks{})
		want(t, "Coarsest of a wrong place", n, e, 0, x.right)
	}
}
