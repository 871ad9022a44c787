package law_test

import (
	"math/big"
	"testing"

	"couplant/api"
	"couplant/law"
)

// pitch asks for grating lobes at a wave length of 118.
func pitch(n int) api.LawPitch {
	return api.LawPitch{Pitch: n, Speed: 5900, Kilohertz: 5000, Turn: api.LawTurn{P: 3, Q: 4, R: 5}}
}

func TestP2_5GratingFree(t *testing.T) {
	straight := api.LawTurn{P: 0, Q: 1, R: 1}
	for _, x := range []struct {
		pitch int
		turn  api.LawTurn
		right bool
	}{
		{60, api.LawTurn{P: 3, Q: 4, R: 5}, true},
		{60, api.LawTurn{P: -3, Q: 4, R: 5}, true},
		// 118 / 1.6 is 73.75, 118 / 1.8 is 65.6.
		{73, api.LawTurn{P: 3, Q: 4, R: 5}, true},
		{74, api.LawTurn{P: 3, Q: 4, R: 5}, false},
		{74, api.LawTurn{P: -3, Q: 4, R: 5}, false},
		{65, api.LawTurn{P: -4, Q: 3, R: 5}, true},
		{66, api.LawTurn{P: 4, Q: 3, R: 5}, false},
		{118, straight, true},
		{119, straight, false},
		{1, api.LawTurn{P: 960, Q: 280, R: 1000}, true},
		{1000, api.LawTurn{P: 960, Q: 280, R: 1000}, false},
	} {
		a := pitch(x.pitch)
		a.Turn = x.turn
		free, e := law.GratingFree(a)
		want(t, "GratingFree", free, e, x.right, api.OK)
	}
	// A wave length of 96 just meets 60 * 1.6.
	met := pitch(60)
	met.Speed, met.Kilohertz = 4800, 5000
	free, e := law.GratingFree(met)
	want(t, "GratingFree of what is met", free, e, true, api.OK)
	met.Speed--
	free, e = law.GratingFree(met)
	want(t, "GratingFree of what is not", free, e, false, api.OK)
}

func TestP2_5SteepestFree(t *testing.T) {
	for _, x := range []struct {
		pitch int
		right api.Frac
		e     api.Errno
	}{
		{60, api.Frac{Num: 29, Den: 30}, api.OK},
		{59, api.Frac{Num: 1, Den: 1}, api.OK},
		{58, api.Frac{Num: 1, Den: 1}, api.OK},
		{1, api.Frac{Num: 1, Den: 1}, api.OK},
		{100, api.Frac{Num: 9, Den: 50}, api.OK},
		{117, api.Frac{Num: 1, Den: 117}, api.OK},
		{118, api.Frac{Num: 0, Den: 1}, api.OK},
		{119, api.Frac{}, api.ErrNone},
		{1000, api.Frac{}, api.ErrNone},
	} {
		f, e := law.SteepestFree(pitch(x.pitch))
		want(t, "SteepestFree", f, e, x.right, x.e)
	}
	turnless := pitch(60)
	turnless.Turn = api.LawTurn{P: greatest, Q: smallest}
	f, e := law.SteepestFree(turnless)
	want(t, "SteepestFree without a turn", f, e, api.Frac{Num: 29, Den: 30}, api.OK)
	// The wave length is 999900 / 50000: 19.998; less 13, by 13: 3499 / 6500.
	f, e = law.SteepestFree(api.LawPitch{Pitch: 13, Speed: 9999, Kilohertz: 50000})
	want(t, "SteepestFree of a short wave", f, e, api.Frac{Num: 3499, Den: 6500}, api.OK)
}

func TestP2_5NearField(t *testing.T) {
	for _, x := range []struct {
		aperture, speed, kilohertz int
		right                      api.Range
	}{
		{1000, 5900, 5000, api.Range{Lo: 2118, Hi: 2119}},
		{0, 5900, 5000, api.Range{}},
		{1, 10000, 1, api.Range{Lo: 0, Hi: 1}},
		{2000, 500, 1, api.Range{Lo: 20, Hi: 20}},
		{2000, 1000, 5000, api.Range{Lo: 50000, Hi: 50000}},
		{10000, 500, 50000, api.Range{Lo: 25000000, Hi: 25000000}},
		{10000, 9999, 50000, api.Range{Lo: 1250125, Hi: 1250126}},
	} {
		r, e := law.NearField(x.aperture, x.speed, x.kilohertz)
		want(t, "NearField", r, e, x.right, api.OK)
	}
	for _, x := range []struct{ aperture, speed, kilohertz int }{
		{-1, 5900, 5000}, {10001, 5900, 5000}, {smallest, 5900, 5000}, {greatest, 5900, 5000},
		{1000, 499, 5000}, {1000, 10001, 5000}, {1000, 0, 5000}, {1000, smallest, 5000}, {1000, greatest, 5000},
		{1000, 5900, 0}, {1000, 5900, -1}, {1000, 5900, 50001}, {1000, 5900, smallest}, {1000, 5900, greatest},
	} {
		r, e := law.NearField(x.aperture, x.speed, x.kilohertz)
		want(t, "NearField of what is wrong", r, e, api.Range{}, api.ErrRange)
	}
}

func TestP2_5PitchErrors(t *testing.T) {
	wrong := func(change func(x *api.LawPitch)) {
		t.Helper()
		for _, turn := range []api.LawTurn{{P: 3, Q: 4, R: 5}, {P: 1, Q: 1, R: 1}} {
			x := pitch(60)
			x.Turn = turn
			change(&x)
			free, e := law.GratingFree(x)
			want(t, "GratingFree of what is wrong", free, e, false, api.ErrRange)
			f, e := law.SteepestFree(x)
			want(t, "SteepestFree of what is wrong", f, e, api.Frac{}, api.ErrRange)
		}
	}
	for _, n := range []int{0, -1, 1001, smallest, greatest} {
		wrong(func(x *api.LawPitch) { x.Pitch = n })
	}
	for _, n := range []int{0, 499, 10001, smallest, greatest} {
		wrong(func(x *api.LawPitch) { x.Speed = n })
	}
	for _, n := range []int{0, -1, 50001, smallest, greatest} {
		wrong(func(x *api.LawPitch) { x.Kilohertz = n })
	}
	for _, x := range wrongTurns() {
		a := pitch(60)
		a.Turn = x.turn
		free, e := law.GratingFree(a)
		want(t, "GratingFree of a wrong direction", free, e, false, x.right)
	}
	for _, x := range []api.LawPitch{{Pitch: 1, Speed: 500, Kilohertz: 1}, {Pitch: 1, Speed: 10000, Kilohertz: 50000}} {
		_, e := law.SteepestFree(x)
		wantError(t, "SteepestFree at the limits", e, api.OK)
	}
	f, e := law.SteepestFree(api.LawPitch{Pitch: 1000, Speed: 500, Kilohertz: 50000})
	want(t, "SteepestFree at the limits", f, e, api.Frac{}, api.ErrNone)
}

// TestP2_5Definition holds lobes and near fields against the definitions.
func TestP2_5Definition(t *testing.T) {
	d := newDice(8)
	turns := []api.LawTurn{{P: 0, Q: 1, R: 1}, {P: 3, Q: 4, R: 5}, {P: -4, Q: 3, R: 5}, {P: 20, Q: 21, R: 29}, {P: -280, Q: 960, R: 1000}}
	for range 2000 {
		x := api.LawPitch{Pitch: d.from(1, 200), Speed: d.from(500, 10000), Kilohertz: d.from(100, 9000), Turn: turns[d.IntN(len(turns))]}
		wave := big.NewRat(int64(100*x.Speed), int64(x.Kilohertz))
		sine := big.NewRat(int64(max(x.Turn.P, -x.Turn.P)), int64(x.Turn.R))
		one := big.NewRat(1, 1)
		width := new(big.Rat).Mul(big.NewRat(int64(x.Pitch), 1), new(big.Rat).Add(one, sine))
		free, e := law.GratingFree(x)
		want(t, "GratingFree", free, e, width.Cmp(wave) <= 0, api.OK)

		steepest := new(big.Rat).Quo(wave, big.NewRat(int64(x.Pitch), 1))
		steepest.Sub(steepest, one)
		f, e := law.SteepestFree(x)
		if steepest.Sign() < 0 {
			want(t, "SteepestFree", f, e, api.Frac{}, api.ErrNone)
			continue
		}
		if steepest.Cmp(one) > 0 {
			steepest = one
		}
		want(t, "SteepestFree", f, e, api.Frac{Num: int(steepest.Num().Int64()), Den: int(steepest.Denom().Int64())}, api.OK)
	}
}
