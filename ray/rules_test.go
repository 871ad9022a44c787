package ray_test

import (
	"testing"

	"couplant/api"
	"couplant/ray"
)

// TestP1NoPanic (R2) calls all functions with numbers of all sizes.
func TestP1NoPanic(t *testing.T) {
	numbers := []int{smallest, smallest + 1, -api.MaxPlace, -1, 0, 1, 2, 5000, api.MaxPlace, greatest - 1, greatest}
	d := dice{14}
	roll := func() int { return numbers[d.from(0, len(numbers)-1)] }
	spot := func() api.Spot { return api.Spot{X: roll(), Z: roll()} }
	mode := func() api.RayMode { return api.RayMode{Wedge: roll(), Metal: roll(), Skips: roll(), Thick: roll()} }
	for range 20000 {
		a, b, m := spot(), spot(), mode()
		x := api.RayCross{X1: roll(), H1: roll(), V1: roll(), X2: roll(), H2: roll(), V2: roll()}
		direction := [2]int{roll(), roll()}
		ray.Length(a, b)
		ray.TimeOf(a, b, roll())
		ray.CheckCross(x)
		ray.SlopeAt(x, roll())
		ray.TimeAt(x, roll())
		ray.Crossing(x)
		ray.CheckCrossing(x, roll())
		ray.Least(x)
		ray.CheckMode(m)
		ray.Unfolded(m, roll())
		ray.CrossOf(m, a, b)
		ray.LeastTime(m, a, b)
		ray.RoundedTime(m, a, b)
		ray.Walls(m, a, b)
		ray.TurnedTime(api.RayTurn{From: a, To: b, Thick: roll(), First: roll(), Second: roll()})
		ray.EchoTime(api.RayEcho{Out: m, Back: mode(), From: a, At: b, To: spot()})
		ray.MayBeFirst([]api.RayMode{m, mode()}, a, b)
		ray.CriticalSquare(roll(), roll())
		ray.Passes(direction, roll(), roll())
		ray.BehindSquare(direction, roll(), roll())
		ray.SteepWithin(direction, api.Frac{Num: roll(), Den: roll()}, api.Frac{Num: roll(), Den: roll()})
	}
}

// TestP1Memory (R3) writes into results: other results stay as they are.
func TestP1Memory(t *testing.T) {
	from, to := api.Spot{Z: -300}, api.Spot{Z: 400}
	w, _ := ray.Walls(plate(2), from, to)
	w[0].Lo = 99
	again, e := ray.Walls(plate(2), from, to)
	wantList(t, "Walls again", again, e, []api.Range{{}, {}}, api.OK)
	l := []api.RayMode{plate(1), plate(0)}
	f, _ := ray.MayBeFirst(l, from, to)
	f[0] = 99
	once, e := ray.MayBeFirst(l, from, to)
	wantList(t, "MayBeFirst again", once, e, []int{1}, api.OK)
	wantList(t, "its argument", l, api.OK, []api.RayMode{plate(1), plate(0)}, api.OK)
}
