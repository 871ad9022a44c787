package tune_test

import (
	"math/big"
	"slices"
	"testing"

	"couplant/api"
	"couplant/tune"
)

func TestP6_4WearOf(t *testing.T) {
	for _, x := range []struct{ before, now, speed, right api.Range }{
		{ends(5000000, 5000000), ends(4000000, 4000000), ends(2000, 2000), ends(100, 100)},
		{ends(4000000, 4000000), ends(5000000, 5000000), ends(2000, 2000), ends(-100, -100)},
		{ends(4000000, 5000000), ends(4000000, 5000000), ends(2000, 4000), ends(-200, 200)},
		{ends(5000000, 6000000), ends(3000000, 4000000), ends(2000, 4000), ends(100, 600)},
		{ends(3000000, 4000000), ends(5000000, 6000000), ends(2000, 4000), ends(-600, -100)},
		{ends(1, 1), ends(0, 0), ends(500, 500), ends(0, 1)}, {ends(0, 0), ends(1, 1), ends(500, 500), ends(-1, 0)}, {ends(7, 7), ends(7, 7), ends(500, 10000), ends(0, 0)},
		{ends(1000000000000, 1000000000000), ends(-1000000000000, -1000000000000), ends(10000, 10000), ends(1000000000, 1000000000)},
		{ends(-1000000000000, 1000000000000), ends(-1000000000000, 1000000000000), ends(500, 10000), ends(-1000000000, 1000000000)},
	} {
		r, e := tune.WearOf(x.before, x.now, x.speed)
		want(t, "WearOf", r, e, x.right, api.OK)
	}
	d := newDice(7)
	span := func(least, most int) api.Range {
		lo := d.from(least, most)
		return ends(lo, d.from(lo, most))
	}
	for range 2000 {
		size := []int{10, 100000, 1000000000000}[d.IntN(3)]
		before, now, speed := span(-size, size), span(-size, size), span(500, 10000)
		var corners []*big.Rat
		for _, b := range []int{before.Lo, before.Hi} {
			for _, n := range []int{now.Lo, now.Hi} {
				for _, v := range []int{speed.Lo, speed.Hi} {
					corners = append(corners, product(whole(b-n), rational(v, 20000000)))
				}
			}
		}
		slices.SortFunc(corners, (*big.Rat).Cmp)
		r, e := tune.WearOf(before, now, speed)
		want(t, "WearOf", r, e, enclosed(corners[0], corners[7]), api.OK)
	}
}

func TestP6_4WearErrors(t *testing.T) {
	wrongDelays := []struct {
		r     api.Range
		right api.Errno
	}{
		{ends(-1000000000001, 0), api.ErrRange}, {ends(0, 1000000000001), api.ErrRange}, {ends(smallest, 0), api.ErrRange}, {ends(0, greatest), api.ErrRange},
		{ends(1000000000001, 0), api.ErrRange}, {ends(0, -1000000000001), api.ErrRange}, {ends(0, smallest), api.ErrRange}, {ends(greatest, 0), api.ErrRange},
		{ends(1, 0), api.ErrOrder}, {ends(0, -1), api.ErrOrder},
	}
	wrongSpeeds := []struct {
		r     api.Range
		right api.Errno
	}{
		{ends(499, 500), api.ErrRange}, {ends(500, 10001), api.ErrRange}, {ends(10001, 500), api.ErrRange}, {ends(500, 499), api.ErrRange}, {ends(0, 0), api.ErrRange},
		{ends(smallest, greatest), api.ErrRange}, {ends(501, 500), api.ErrOrder},
	}
	right, speed := ends(0, 1), ends(500, 501)
	wanted := func(before, now, speed api.Range, right api.Errno) {
		t.Helper()
		r, e := tune.WearOf(before, now, speed)
		want(t, "WearOf", r, e, api.Range{}, right)
	}
	for _, x := range wrongDelays {
		wanted(x.r, right, speed, x.right)
		wanted(right, x.r, speed, x.right)
		for _, y := range wrongDelays {
			wanted(x.r, y.r, speed, x.right)
		}
		for _, y := range wrongSpeeds {
			wanted(x.r, right, y.r, x.right)
			wanted(right, x.r, y.r, x.right)
		}
	}
	for _, x := range wrongSpeeds {
		wanted(right, right, x.r, x.right)
	}
}

func TestP6_4Uneven(t *testing.T) {
	for _, x := range []struct {
		l                []int
		reference, slack int
		right            []int
	}{
		{[]int{100, 89, 112}, 100, 100, []int{1, 2}}, {[]int{100, 90, 110}, 100, 100, nil}, {nil, 100, 100, nil}, {[]int{99, 100, 101}, 100, 0, []int{0, 2}},
		{[]int{0, 1, 2, 3}, 1, 1000, []int{3}}, {[]int{0, 1000000}, 1000000, 999, []int{0}}, {[]int{1}, 1000000, 1000, nil}, {[]int{1}, 1000000, 999, []int{0}},
		{make([]int, 16), 7, 142, []int{0, 1, 2, 3, 4, 5, 6, 7, 8, 9, 10, 11, 12, 13, 14, 15}}, {[]int{1000000}, 1, 1000, []int{0}},
		{[]int{6, 8}, 7, 142, []int{0, 1}}, {[]int{6, 8}, 7, 143, nil},
	} {
		l, e := tune.Uneven(x.l, x.reference, x.slack)
		want(t, "Uneven of "+shown(x.l), l, e, x.right, api.OK)
	}
	d := newDice(8)
	for range 1000 {
		reference, slack := d.from(1, []int{5, 1000000}[d.IntN(2)]), d.from(0, 1000)
		var l, right []int
		for n := range d.from(0, 16) {
			l = append(l, d.from(0, min(1000000, 2*reference+1)))
			part := rational(1000*l[n], reference)
			if part.Cmp(whole(1000-slack)) < 0 || part.Cmp(whole(1000+slack)) > 0 {
				right = append(right, n)
			}
		}
		got, e := tune.Uneven(l, reference, slack)
		want(t, "Uneven", got, e, right, api.OK)
	}
}

func TestP6_4UnevenErrors(t *testing.T) {
	for _, x := range []struct {
		l                []int
		reference, slack int
		right            api.Errno
	}{
		{make([]int, 17), 1, 0, api.ErrLarge}, {slices.Repeat([]int{-1}, 17), 0, -1, api.ErrLarge},
		{[]int{-1}, 1, 0, api.ErrRange}, {[]int{0, 1000001}, 1, 0, api.ErrRange}, {[]int{smallest}, 1, 0, api.ErrRange}, {[]int{greatest}, 1, 0, api.ErrRange},
		{nil, 0, 0, api.ErrRange}, {nil, 1000001, 0, api.ErrRange}, {nil, smallest, 0, api.ErrRange}, {nil, greatest, 0, api.ErrRange},
		{nil, 1, -1, api.ErrRange}, {nil, 1, 1001, api.ErrRange}, {nil, 1, smallest, api.ErrRange}, {nil, 1, greatest, api.ErrRange},
	} {
		l, e := tune.Uneven(x.l, x.reference, x.slack)
		want(t, "Uneven", l, e, nil, x.right)
	}
}
