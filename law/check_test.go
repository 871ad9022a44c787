package law_test

import (
	"slices"
	"testing"

	"couplant/api"
	"couplant/law"
)

func TestP2_1CheckArray(t *testing.T) {
	one, most, same := two(), two(), two()
	one.Elements = []api.Spot{{X: -100000, Z: -100000}}
	one.Clock = 1
	most.Elements = slices.Repeat([]api.Spot{{X: 100000, Z: -1}}, 16)
	most.Mode = api.RayMode{Wedge: 500, Metal: 10000, Skips: 4, Thick: 20000}
	most.Clock = 1000000
	same.Elements[1] = same.Elements[0]
	for _, a := range []api.LawArray{two(), one, most, same} {
		n, e := law.CheckArray(a)
		want(t, "CheckArray", n, e, 0, api.OK)
	}
	for _, x := range wrongArrays() {
		n, e := law.CheckArray(x.a)
		want(t, "CheckArray of a wrong one", n, e, x.number, x.right)
	}
}

func TestP2_1CheckLaw(t *testing.T) {
	for _, l := range []api.DelayLaw{
		ticks(1200, 0), ticks(0), ticks(-1), ticks(-1, -1),
		{Clock: 1, Ticks: []int{1000000, -1}},
		{Clock: 1000000, Ticks: make([]int, 16)},
	} {
		n, e := law.CheckLaw(l)
		want(t, "CheckLaw", n, e, 0, api.OK)
	}
	for _, x := range wrongLaws() {
		n, e := law.CheckLaw(x.l)
		want(t, "CheckLaw of a wrong one", n, e, x.number, x.right)
	}
}

func TestP2_1CheckTurn(t *testing.T) {
	for _, turn := range []api.LawTurn{
		{P: 0, Q: 1, R: 1}, {P: 3, Q: 4, R: 5}, {P: -3, Q: 4, R: 5}, {P: 0, Q: 1000, R: 1000}, {P: 600, Q: 800, R: 1000}, {P: -960, Q: 280, R: 1000},
	} {
		wantError(t, "CheckTurn", law.CheckTurn(turn), api.OK)
	}
	for _, x := range wrongTurns() {
		wantError(t, "CheckTurn of a wrong one", law.CheckTurn(x.turn), x.right)
	}
}

type wrongTurn struct {
	turn  api.LawTurn
	right api.Errno
}

func wrongTurns() []wrongTurn {
	return []wrongTurn{
		{api.LawTurn{P: 0, Q: 0, R: 0}, api.ErrRange},
		{api.LawTurn{P: 3, Q: 4, R: -5}, api.ErrRange},
		{api.LawTurn{P: 0, Q: 1001, R: 1001}, api.ErrRange},
		{api.LawTurn{P: 1, Q: 1, R: 1001}, api.ErrRange},
		{api.LawTurn{P: smallest, Q: smallest, R: smallest}, api.ErrRange},
		{api.LawTurn{P: greatest, Q: greatest, R: greatest}, api.ErrRange},
		{api.LawTurn{P: 1, Q: 1, R: 1}, api.ErrShape},
		{api.LawTurn{P: 1, Q: 0, R: 2}, api.ErrShape},
		{api.LawTurn{P: 3, Q: -4, R: 6}, api.ErrShape},
		{api.LawTurn{P: 3, Q: 4, R: 6}, api.ErrShape},
		{api.LawTurn{P: 4, Q: 4, R: 5}, api.ErrShape},
		// The squares of these, as ints that wrap around, are together that of R.
		{api.LawTurn{P: 1 << 32, Q: 5, R: 5}, api.ErrShape},
		{api.LawTurn{P: smallest, Q: 5, R: 5}, api.ErrShape},
		{api.LawTurn{P: 5, Q: 1 << 32, R: 5}, api.ErrShape},
		{api.LawTurn{P: 3, Q: 4 + 1<<62, R: 5}, api.ErrShape},
		{api.LawTurn{P: -3 - 1<<62, Q: 4, R: 5}, api.ErrShape},
		{api.LawTurn{P: 1, Q: 0, R: 1}, api.ErrKind},
		{api.LawTurn{P: -5, Q: 0, R: 5}, api.ErrKind},
		{api.LawTurn{P: 3, Q: -4, R: 5}, api.ErrKind},
		{api.LawTurn{P: 0, Q: -1, R: 1}, api.ErrKind},
	}
}

// TestP2_1Callers asks all functions with an array or a law for their errors.
func TestP2_1Callers(t *testing.T) {
	straight, wrong := api.LawTurn{Q: 1, R: 1}, api.Spot{Z: -1}
	for _, x := range wrongArrays() {
		for _, at := range []api.Spot{focus(), wrong} {
			l, e := law.FocusLaw(x.a, at)
			want(t, "FocusLaw of a wrong array", l, e, none(), x.right)
			c, e := law.Coarsest(x.a, at, api.LawClocks{})
			want(t, "Coarsest of a wrong array", c, e, 0, x.right)
			wantLawError(t, x.a, ticks(0, 0), at, x.right)
			wantLawError(t, x.a, ticks(0, -2), at, x.right)
			wantLawError(t, x.a, ticks(0), at, x.right)
		}
		l, e := law.PlaneLaw(x.a, straight)
		want(t, "PlaneLaw of a wrong array", l, e, none(), x.right)
		l, e = law.PlaneLaw(x.a, api.LawTurn{})
		want(t, "PlaneLaw of a wrong array, and a wrong direction", l, e, none(), x.right)
	}
	for _, x := range wrongLaws() {
		wantLawError(t, two(), x.l, focus(), x.right)
		wantLawError(t, two(), x.l, wrong, x.right)
		wantChangeError(t, x.l, x.right)
	}
	for _, l := range []api.DelayLaw{ticks(0), ticks(0, 0, 0), ticks(-1)} {
		wantLawError(t, two(), l, focus(), api.ErrShape)
		wantLawError(t, two(), l, wrong, api.ErrShape)
	}
}

// wantLawError asks all functions with an array and a law for their error.
func wantLawError(t *testing.T, a api.LawArray, l api.DelayLaw, at api.Spot, right api.Errno) {
	t.Helper()
	arrivals, e := law.Arrivals(a, l, at)
	want(t, "Arrivals", arrivals, e, nil, right)
	spread, e := law.Spread(a, l, at)
	want(t, "Spread", spread, e, api.Range{}, right)
	for _, places := range [][]api.Spot{{at}, nil, make([]api.Spot, 21)} {
		n, e := law.BestAt(a, l, places)
		want(t, "BestAt", n, e, 0, right)
	}
	aperture, e := law.Aperture(a, l)
	want(t, "Aperture", aperture, e, api.Range{}, right)
}

// wantChangeError asks all functions with a law alone for their error.
func wantChangeError(t *testing.T, l api.DelayLaw, right api.Errno) {
	t.Helper()
	got, e := law.Without(l, nil)
	want(t, "Without", got, e, none(), right)
	got, e = law.Without(l, []int{-1})
	want(t, "Without, and nobody", got, e, none(), right)
	sending, e := law.Sending(l)
	want(t, "Sending", sending, e, nil, right)
	got, e = law.Normalised(l)
	want(t, "Normalised", got, e, none(), right)
	got, e = law.Added(l, ticks(0, 0))
	want(t, "Added", got, e, none(), right)
	got, e = law.Added(l, ticks())
	want(t, "Added to none", got, e, none(), right)
	got, e = law.Added(ticks(0, 0), l)
	want(t, "Added behind", got, e, none(), right)
	got, e = law.Added(api.DelayLaw{Clock: 7, Ticks: []int{0, 0, 0}}, l)
	want(t, "Added behind one that does not fit", got, e, none(), right)
	got, e = law.Recast(l, 1000)
	want(t, "Recast", got, e, none(), right)
	got, e = law.Recast(l, 0)
	want(t, "Recast to no clock", got, e, none(), right)
}
