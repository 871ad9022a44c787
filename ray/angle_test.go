package ray_test

import (
	"testing"

	"couplant/api"
	"couplant/ray"
)

func wrongSpeeds() []int { return []int{499, 10001, 0, -2500, smallest, greatest} }

func wrongDirections() [][2]int {
	return [][2]int{{1001, 5}, {-1001, 5}, {1, 0}, {1, -1}, {1, 1001}, {smallest, 5}, {greatest, 5}, {1, smallest}, {1, greatest}}
}

func TestP1_5CriticalSquare(t *testing.T) {
	for _, x := range []struct {
		first, second int
		right         api.Frac
		e             api.Errno
	}{
		{2500, 5000, api.Frac{Num: 1, Den: 4}, api.OK},
		{3000, 4000, api.Frac{Num: 9, Den: 16}, api.OK},
		{500, 10000, api.Frac{Num: 1, Den: 400}, api.OK},
		{9999, 10000, api.Frac{Num: 99980001, Den: 100000000}, api.OK},
		{2730, 5900, api.Frac{Num: 74529, Den: 348100}, api.OK},
		{5000, 5000, api.Frac{}, api.ErrNone},
		{5001, 5000, api.Frac{}, api.ErrNone},
		{10000, 500, api.Frac{}, api.ErrNone},
	} {
		f, e := ray.CriticalSquare(x.first, x.second)
		want(t, "CriticalSquare", f, e, x.right, x.e)
	}
	for _, speed := range wrongSpeeds() {
		f, e := ray.CriticalSquare(speed, 5000)
		want(t, "CriticalSquare of a wrong first speed", f, e, api.Frac{}, api.ErrRange)
		f, e = ray.CriticalSquare(5000, speed)
		want(t, "CriticalSquare of a wrong second speed", f, e, api.Frac{}, api.ErrRange)
	}
}

func TestP1_5Passes(t *testing.T) {
	for _, x := range []struct {
		direction     [2]int
		first, second int
		right         bool
	}{
		{[2]int{3, 4}, 2500, 5000, false},
		{[2]int{1, 2}, 2500, 5000, true},
		{[2]int{-1, 2}, 2500, 5000, true},
		{[2]int{-3, 4}, 2500, 5000, false},
		{[2]int{3, 4}, 3000, 5000, true},
		{[2]int{-3, 4}, 3000, 5000, true},
		{[2]int{3, 4}, 2999, 5000, false},
		{[2]int{3, 4}, 3000, 5001, false},
		{[2]int{0, 1}, 500, 10000, true},
		{[2]int{1000, 1}, 5000, 5000, true},
		{[2]int{1000, 1}, 5000, 5001, false},
		{[2]int{1000, 1000}, 10000, 500, true},
		{[2]int{-1000, 1000}, 500, 10000, false},
	} {
		p, e := ray.Passes(x.direction, x.first, x.second)
		want(t, "Passes", p, e, x.right, api.OK)
	}
}

func TestP1_5BehindSquare(t *testing.T) {
	for _, x := range []struct {
		direction     [2]int
		first, second int
		right         api.Frac
		e             api.Errno
	}{
		{[2]int{1, 2}, 2500, 5000, api.Frac{Num: 4, Den: 5}, api.OK},
		{[2]int{-1, 2}, 2500, 5000, api.Frac{Num: 4, Den: 5}, api.OK},
		{[2]int{3, 4}, 3000, 5000, api.Frac{Num: 1, Den: 1}, api.OK},
		{[2]int{0, 7}, 2500, 5000, api.Frac{Num: 0, Den: 1}, api.OK},
		{[2]int{3, 4}, 2500, 5000, api.Frac{}, api.ErrNone},
		{[2]int{1, 3}, 10000, 9999, api.Frac{Num: 99980001, Den: 1000000000}, api.OK},
		{[2]int{3, 2}, 10000, 9999, api.Frac{}, api.ErrLarge},
		{[2]int{999, 1000}, 9999, 9998, api.Frac{}, api.ErrLarge},
		{[2]int{1000, 1}, 9998, 9999, api.Frac{}, api.ErrNone},
	} {
		f, e := ray.BehindSquare(x.direction, x.first, x.second)
		want(t, "BehindSquare", f, e, x.right, x.e)
	}
}

func TestP1_5DirectionErrors(t *testing.T) {
	half := api.Frac{Num: 1, Den: 2}
	for _, d := range wrongDirections() {
		p, e := ray.Passes(d, 2500, 5000)
		want(t, "Passes of a wrong direction", p, e, false, api.ErrRange)
		f, e := ray.BehindSquare(d, 2500, 5000)
		want(t, "BehindSquare of a wrong direction", f, e, api.Frac{}, api.ErrRange)
		p, e = ray.SteepWithin(d, half, half)
		want(t, "SteepWithin of a wrong direction", p, e, false, api.ErrRange)
		p, e = ray.SteepWithin(d, api.Frac{Num: 2, Den: 4}, api.Frac{})
		want(t, "SteepWithin of a wrong direction and limits", p, e, false, api.ErrRange)
	}
	for _, speed := range wrongSpeeds() {
		p, e := ray.Passes([2]int{1, 2}, speed, 5000)
		want(t, "Passes of a wrong first speed", p, e, false, api.ErrRange)
		p, e = ray.Passes([2]int{1, 2}, 5000, speed)
		want(t, "Passes of a wrong second speed", p, e, false, api.ErrRange)
		f, e := ray.BehindSquare([2]int{1, 2}, speed, 5000)
		want(t, "BehindSquare of a wrong first speed", f, e, api.Frac{}, api.ErrRange)
		f, e = ray.BehindSquare([2]int{1, 2}, 5000, speed)
		want(t, "BehindSquare of a wrong second speed", f, e, api.Frac{}, api.ErrRange)
	}
}

func TestP1_5SteepWithin(t *testing.T) {
	for _, x := range []struct {
		direction   [2]int
		least, most api.Frac
		right       bool
	}{
		{[2]int{3, 4}, api.Frac{Num: 1, Den: 2}, api.Frac{Num: 1, Den: 1}, true},
		{[2]int{-3, 4}, api.Frac{Num: 1, Den: 2}, api.Frac{Num: 1, Den: 1}, true},
		{[2]int{3, 4}, api.Frac{Num: 3, Den: 4}, api.Frac{Num: 3, Den: 4}, true},
		{[2]int{6, 8}, api.Frac{Num: 3, Den: 4}, api.Frac{Num: 3, Den: 4}, true},
		{[2]int{3, 4}, api.Frac{Num: 4, Den: 5}, api.Frac{Num: 1, Den: 1}, false},
		{[2]int{3, 4}, api.Frac{Num: 0, Den: 1}, api.Frac{Num: 2, Den: 3}, false},
		{[2]int{-3, 4}, api.Frac{Num: 0, Den: 1}, api.Frac{Num: 2, Den: 3}, false},
		{[2]int{0, 5}, api.Frac{Num: 0, Den: 1}, api.Frac{Num: 2, Den: 3}, true},
		{[2]int{0, 5}, api.Frac{Num: 0, Den: 1}, api.Frac{Num: 0, Den: 1}, true},
		{[2]int{0, 5}, api.Frac{Num: 1, Den: 1000000000}, api.Frac{Num: 2, Den: 3}, false},
		{[2]int{1000, 1}, api.Frac{Num: 1000, Den: 1}, api.Frac{Num: 1000000000, Den: 1}, true},
		{[2]int{1000, 1000}, api.Frac{Num: 999999999, Den: 1000000000}, api.Frac{Num: 1000000000, Den: 999999999}, true},
		{[2]int{1000, 1000}, api.Frac{Num: 1000000000, Den: 999999999}, api.Frac{Num: 1000000000, Den: 999999999}, false},
		{[2]int{1000, 1000}, api.Frac{Num: 999999999, Den: 1000000000}, api.Frac{Num: 999999999, Den: 1000000000}, false},
	} {
		is, e := ray.SteepWithin(x.direction, x.least, x.most)
		want(t, "SteepWithin", is, e, x.right, api.OK)
	}
}

func TestP1_5SteepWithinErrors(t *testing.T) {
	zero, two := api.Frac{Num: 0, Den: 1}, api.Frac{Num: 2, Den: 1}
	for _, x := range []struct {
		wrong api.Frac
		right api.Errno
	}{
		{api.Frac{Num: 2, Den: 4}, api.ErrForm},
		{api.Frac{Num: -2, Den: 4}, api.ErrForm},
		{api.Frac{Num: 0, Den: 2}, api.ErrForm},
		{api.Frac{Num: 1, Den: 0}, api.ErrForm},
		{api.Frac{Num: 0, Den: 0}, api.ErrForm},
		{api.Frac{Num: 1, Den: -2}, api.ErrForm},
		{api.Frac{Num: -1, Den: -2}, api.ErrForm},
		{api.Frac{Num: 1, Den: smallest}, api.ErrForm},
		{api.Frac{Num: smallest, Den: smallest}, api.ErrForm},
		{api.Frac{Num: smallest, Den: 2}, api.ErrForm},
		{api.Frac{Num: 2000000000, Den: 2}, api.ErrForm},
		{api.Frac{Num: 2, Den: 2000000000}, api.ErrForm},
		{api.Frac{Num: -1, Den: 2}, api.ErrRange},
		{api.Frac{Num: smallest, Den: 1}, api.ErrRange},
		{api.Frac{Num: 1000000001, Den: 1}, api.ErrRange},
		{api.Frac{Num: 1, Den: 1000000001}, api.ErrRange},
		{api.Frac{Num: greatest, Den: 1}, api.ErrRange},
		{api.Frac{Num: 1, Den: greatest}, api.ErrRange},
	} {
		is, e := ray.SteepWithin([2]int{3, 4}, x.wrong, two)
		want(t, "SteepWithin from a wrong one", is, e, false, x.right)
		is, e = ray.SteepWithin([2]int{3, 4}, zero, x.wrong)
		want(t, "SteepWithin to a wrong one", is, e, false, x.right)
	}
	form, outside := api.Frac{Num: 2, Den: 4}, api.Frac{Num: -1, Den: 2}
	is, e := ray.SteepWithin([2]int{3, 4}, form, outside)
	want(t, "SteepWithin from a wrong form", is, e, false, api.ErrForm)
	is, e = ray.SteepWithin([2]int{3, 4}, outside, form)
	want(t, "SteepWithin from below 0", is, e, false, api.ErrRange)
	is, e = ray.SteepWithin([2]int{3, 4}, two, outside)
	want(t, "SteepWithin to below 0", is, e, false, api.ErrRange)
	is, e = ray.SteepWithin([2]int{3, 4}, two, api.Frac{Num: 1, Den: 1})
	want(t, "SteepWithin limits that fall", is, e, false, api.ErrOrder)
	is, e = ray.SteepWithin([2]int{1, 1}, api.Frac{Num: 1000000000, Den: 999999999}, api.Frac{Num: 999999999, Den: 999999998})
	want(t, "SteepWithin limits that hardly rise", is, e, false, api.OK)
	is, e = ray.SteepWithin([2]int{1, 1}, api.Frac{Num: 999999999, Den: 999999998}, api.Frac{Num: 1000000000, Den: 999999999})
	want(t, "SteepWithin limits that hardly fall", is, e, false, api.ErrOrder)
}
