package law_test

import (
	"slices"
	"testing"

	"couplant/api"
	"couplant/law"
)

func TestP2_4Without(t *testing.T) {
	for _, x := range []struct {
		l     api.DelayLaw
		dead  []int
		right api.DelayLaw
		e     api.Errno
	}{
		{ticks(1200, 0), []int{0}, ticks(-1, 0), api.OK},
		{ticks(1200, 0), []int{1}, ticks(1200, -1), api.OK},
		{ticks(1200, 0), []int{0, 1}, ticks(-1, -1), api.OK},
		{ticks(1200, 0), nil, ticks(1200, 0), api.OK},
		{ticks(-1, 0), []int{0}, ticks(-1, 0), api.OK},
		{ticks(5, 6, 7, 8), []int{0, 3}, ticks(-1, 6, 7, -1), api.OK},
		{api.DelayLaw{Clock: 7, Ticks: make([]int, 16)}, []int{15}, api.DelayLaw{Clock: 7, Ticks: append(make([]int, 15), -1)}, api.OK},
		{ticks(1200, 0), []int{2}, none(), api.ErrMissing},
		{ticks(1200, 0), []int{-1}, none(), api.ErrMissing},
		{ticks(1200, 0), []int{smallest}, none(), api.ErrMissing},
		{ticks(1200, 0), []int{greatest}, none(), api.ErrMissing},
		{ticks(1200, 0), []int{1, 0}, none(), api.ErrOrder},
		{ticks(1200, 0), []int{0, 0}, none(), api.ErrOrder},
		{ticks(1200, 0), []int{1, -1}, none(), api.ErrMissing},
		{ticks(1200, 0), []int{0, 1, 2}, none(), api.ErrMissing},
		{ticks(1200, 0), []int{0, 0, 2}, none(), api.ErrOrder},
		{ticks(1200, 0), []int{0, 2, 2}, none(), api.ErrMissing},
	} {
		l, e := law.Without(x.l, x.dead)
		want(t, "Without", l, e, x.right, x.e)
	}
}

func TestP2_4Sending(t *testing.T) {
	for _, x := range []struct {
		l     api.DelayLaw
		right []int
	}{
		{ticks(-1, 0, 5), []int{1, 2}},
		{ticks(0, -1), []int{0}},
		{ticks(-1, -1), nil},
		{ticks(5, 0), []int{0, 1}},
		{ticks(append(make([]int, 15), -1)...), []int{0, 1, 2, 3, 4, 5, 6, 7, 8, 9, 10, 11, 12, 13, 14}},
	} {
		l, e := law.Sending(x.l)
		want(t, "Sending", l, e, x.right, api.OK)
	}
}

func TestP2_4Aperture(t *testing.T) {
	a := two()
	a.Elements = []api.Spot{{X: 40, Z: -300}, {X: -7, Z: -600}, {X: 90, Z: -1}}
	for _, x := range []struct {
		l     api.DelayLaw
		right api.Range
		e     api.Errno
	}{
		{ticks(0, 0, 0), api.Range{Lo: -7, Hi: 90}, api.OK},
		{ticks(0, 5, -1), api.Range{Lo: -7, Hi: 40}, api.OK},
		{ticks(0, -1, 0), api.Range{Lo: 40, Hi: 90}, api.OK},
		{ticks(-1, 9, -1), api.Range{Lo: -7, Hi: -7}, api.OK},
		{ticks(-1, -1, -1), api.Range{}, api.ErrNone},
		{ticks(-1, -1), api.Range{}, api.ErrShape},
	} {
		r, e := law.Aperture(a, x.l)
		want(t, "Aperture", r, e, x.right, x.e)
	}
}

func TestP2_4Normalised(t *testing.T) {
	for _, x := range []struct {
		l, right api.DelayLaw
		e        api.Errno
	}{
		{ticks(7, -1, 5), ticks(2, -1, 0), api.OK},
		{ticks(-1, -1, 5), ticks(-1, -1, 0), api.OK},
		{ticks(3, 0), ticks(3, 0), api.OK},
		{ticks(1000000, 999999), ticks(1, 0), api.OK},
		{api.DelayLaw{Clock: 7, Ticks: []int{4, 4}}, api.DelayLaw{Clock: 7, Ticks: []int{0, 0}}, api.OK},
		{ticks(-1), none(), api.ErrNone},
		{ticks(-1, -1, -1), none(), api.ErrNone},
	} {
		l, e := law.Normalised(x.l)
		want(t, "Normalised", l, e, x.right, x.e)
	}
}

func TestP2_4Added(t *testing.T) {
	other := func(l ...int) api.DelayLaw { return api.DelayLaw{Clock: 1, Ticks: l} }
	for _, x := range []struct {
		a, b, right api.DelayLaw
		e           api.Errno
	}{
		{ticks(7, -1, 5), ticks(1, 1, -1), ticks(8, -1, -1), api.OK},
		{ticks(0, 0), ticks(0, 3), ticks(0, 3), api.OK},
		{ticks(-1, -1), ticks(-1, 3), ticks(-1, -1), api.OK},
		{ticks(-1, 0), ticks(0, -1), ticks(-1, -1), api.OK},
		{other(7), other(8), other(15), api.OK},
		{ticks(999999), ticks(1), ticks(1000000), api.OK},
		{ticks(1000000, -1), ticks(0, 1000000), ticks(1000000, -1), api.OK},
		{ticks(1000000, 1000000), ticks(-1, -1), ticks(-1, -1), api.OK},
		{ticks(1000000), ticks(1), none(), api.ErrLarge},
		{ticks(0, 500000), ticks(0, 500001), none(), api.ErrLarge},
		{ticks(7), other(7), none(), api.ErrUnit},
		{ticks(7, 7), other(7), none(), api.ErrUnit},
		{ticks(7, 7), ticks(7), none(), api.ErrShape},
		{ticks(1000000), ticks(1, 1), none(), api.ErrShape},
		{ticks(1000000), other(1), none(), api.ErrUnit},
	} {
		l, e := law.Added(x.a, x.b)
		want(t, "Added", l, e, x.right, x.e)
		l, e = law.Added(x.b, x.a)
		want(t, "Added in the other order", l, e, x.right, x.e)
	}
	l, e := law.Added(ticks(-2), ticks())
	want(t, "Added of two wrong laws", l, e, none(), api.ErrRange)
	l, e = law.Added(ticks(), ticks(-2))
	want(t, "Added of two wrong laws", l, e, none(), api.ErrShape)
}

func TestP2_4Recast(t *testing.T) {
	for _, x := range []struct {
		l     api.DelayLaw
		clock int
		right api.DelayLaw
		e     api.Errno
	}{
		{ticks(1200, -1), 700, api.DelayLaw{Clock: 700, Ticks: []int{1714, -1}}, api.OK},
		{ticks(1200, 0, -1), 1000, ticks(1200, 0, -1), api.OK},
		{ticks(1200, 0), 1, none(), api.ErrLarge},
		{ticks(1000, 999), 1, api.DelayLaw{Clock: 1, Ticks: []int{1000000, 999000}}, api.OK},
		{ticks(0, 1001), 1, none(), api.ErrLarge},
		{ticks(-1, -1), 1, api.DelayLaw{Clock: 1, Ticks: []int{-1, -1}}, api.OK},
		// Halves: 0.5, 1.5, 1, 2.5.
		{ticks(1, 3, 2, 5), 2000, api.DelayLaw{Clock: 2000, Ticks: []int{1, 2, 1, 3}}, api.OK},
		{ticks(1, 3, 2, 5), 2001, api.DelayLaw{Clock: 2001, Ticks: []int{0, 1, 1, 2}}, api.OK},
		{ticks(499, 500, -1), 1000000, api.DelayLaw{Clock: 1000000, Ticks: []int{0, 1, -1}}, api.OK},
		// 999999.6 and 1000000.5.
		{api.DelayLaw{Clock: 10, Ticks: []int{9, 1000000}}, 10, api.DelayLaw{Clock: 10, Ticks: []int{9, 1000000}}, api.OK},
		{api.DelayLaw{Clock: 12, Ticks: []int{833333, 0}}, 10, api.DelayLaw{Clock: 10, Ticks: []int{1000000, 0}}, api.OK},
		{api.DelayLaw{Clock: 6, Ticks: []int{666667, 0}}, 4, none(), api.ErrLarge},
		{api.DelayLaw{Clock: 1000000, Ticks: []int{1000000}}, 1000000, api.DelayLaw{Clock: 1000000, Ticks: []int{1000000}}, api.OK},
		{api.DelayLaw{Clock: 1000000, Ticks: []int{1000000}}, 999999, none(), api.ErrLarge},
	} {
		l, e := law.Recast(x.l, x.clock)
		want(t, "Recast", l, e, x.right, x.e)
	}
	for _, clock := range wrongClocks() {
		l, e := law.Recast(ticks(1200, 0), clock)
		want(t, "Recast to a wrong clock", l, e, none(), api.ErrRange)
	}
}

// TestP2_4Definition holds changed laws against the definitions.
func TestP2_4Definition(t *testing.T) {
	d := newDice(7)
	for range 2000 {
		l, clock := d.law(d.from(1, api.MaxElements)), d.from(1, 5000)
		right := api.DelayLaw{Clock: clock}
		var sending []int
		for n, delay := range l.Ticks {
			if delay < 0 {
				right.Ticks = append(right.Ticks, -1)
				continue
			}
			sending = append(sending, n)
			right.Ticks = append(right.Ticks, rightRounded(product(delay, l.Clock), number(clock)))
		}
		numbers, e := law.Sending(l)
		want(t, "Sending", numbers, e, sending, api.OK)
		got, e := law.Recast(l, clock)
		if slices.Max(right.Ticks) > api.MaxTicks {
			want(t, "Recast", got, e, none(), api.ErrLarge)
			continue
		}
		want(t, "Recast", got, e, right, api.OK)
	}
}
