package cover_test

import (
	"slices"
	"testing"

	"couplant/api"
	"couplant/cover"
)

// span is a range of positions.
func span(lo, hi int) api.Range { return api.Range{Lo: lo, Hi: hi} }

// wrongTrack is a track with its error.
type wrongTrack struct {
	x     api.CoverTrack
	right api.Errno
}

func wrongTracks() []wrongTrack {
	l := []wrongTrack{
		{api.CoverTrack{From: 2, To: 1}, api.ErrOrder}, {api.CoverTrack{From: 1000000, To: 0}, api.ErrOrder},
		{api.CoverTrack{From: 5, To: -1}, api.ErrRange}, {api.CoverTrack{From: 5, To: 4, Slip: -1}, api.ErrRange}, {api.CoverTrack{From: 5, To: 4, Reach: 1000001}, api.ErrRange},
	}
	for _, n := range []int{smallest, -1, 1000001, greatest} {
		l = append(l,
			wrongTrack{api.CoverTrack{From: n, To: 5}, api.ErrRange}, wrongTrack{api.CoverTrack{To: n}, api.ErrRange},
			wrongTrack{api.CoverTrack{To: 5, Slip: n}, api.ErrRange}, wrongTrack{api.CoverTrack{To: 5, Reach: n}, api.ErrRange},
		)
	}
	return l
}

func TestP7_5CheckTrack(t *testing.T) {
	for _, x := range []api.CoverTrack{{}, {From: 0, To: 100, Slip: 2, Reach: 10}, {From: 1000000, To: 1000000, Slip: 1000000, Reach: 1000000}, {From: 7, To: 7, Slip: 3}} {
		want(t, "CheckTrack", x, cover.CheckTrack(x), x, api.OK)
	}
	for _, x := range wrongTracks() {
		want(t, "CheckTrack", x.x, cover.CheckTrack(x.x), x.x, x.right)
	}
}

// isScanned tells whether a position is surely scanned, as the chapter defines it.
func isScanned(x api.CoverTrack, readings []int, position int) bool {
	return slices.ContainsFunc(readings, func(p int) bool {
		return p+x.Slip-x.Reach <= position && position <= p-x.Slip+x.Reach
	})
}

// ranges is the longest ranges of the positions of a track for which a condition holds.
func ranges(x api.CoverTrack, holds func(position int) bool) []api.Range {
	var l []api.Range
	for p := x.From; p <= x.To; p++ {
		switch last := len(l) - 1; {
		case !holds(p):
		case last >= 0 && l[last].Hi == p-1:
			l[last].Hi = p
		default:
			l = append(l, span(p, p))
		}
	}
	return l
}

func TestP7_5Scanned(t *testing.T) {
	track := func(from, to, slip, reach int) api.CoverTrack {
		return api.CoverTrack{From: from, To: to, Slip: slip, Reach: reach}
	}
	for _, x := range []struct {
		x       api.CoverTrack
		l       []int
		scanned []api.Range
		anew    []api.Range
	}{
		{track(0, 100, 2, 10), []int{20, 38}, []api.Range{span(12, 28), span(30, 46)}, []api.Range{span(0, 11), span(29, 29), span(47, 100)}},
		{track(0, 100, 2, 10), []int{37, 20}, []api.Range{span(12, 45)}, []api.Range{span(0, 11), span(46, 100)}},
		{track(0, 100, 2, 10), nil, nil, []api.Range{span(0, 100)}},
		{track(0, 100, 2, 10), []int{20, 20, 20}, []api.Range{span(12, 28)}, []api.Range{span(0, 11), span(29, 100)}},
		{track(0, 100, 2, 10), []int{-8, 108}, []api.Range{span(0, 0), span(100, 100)}, []api.Range{span(1, 99)}},
		{track(0, 100, 2, 10), []int{-9, 109}, nil, []api.Range{span(0, 100)}},
		{track(0, 100, 10, 10), []int{50, 0, 100, 51}, []api.Range{span(0, 0), span(50, 51), span(100, 100)}, []api.Range{span(1, 49), span(52, 99)}},
		{track(0, 100, 11, 10), []int{50, 0, 100}, nil, []api.Range{span(0, 100)}}, {track(0, 0, 1000000, 0), []int{0}, nil, []api.Range{span(0, 0)}},
		{track(5, 5, 0, 0), []int{5}, []api.Range{span(5, 5)}, nil}, {track(5, 5, 0, 0), []int{4, 6}, nil, []api.Range{span(5, 5)}},
		{track(0, 1000000, 0, 1000000), []int{2000000}, []api.Range{span(1000000, 1000000)}, []api.Range{span(0, 999999)}},
		{track(0, 1000000, 0, 1000000), []int{-2000000, -1000000}, []api.Range{span(0, 0)}, []api.Range{span(1, 1000000)}},
		{track(0, 1000000, 0, 1000000), []int{0}, []api.Range{span(0, 1000000)}, nil},
		{track(10, 20, 0, 2), []int{8, 22}, []api.Range{span(10, 10), span(20, 20)}, []api.Range{span(11, 19)}},
	} {
		l, e := cover.Scanned(x.x, x.l)
		want(t, "Scanned of "+shown(x.x)+" and "+shown(x.l), l, e, x.scanned, api.OK)
		l, e = cover.Anew(x.x, x.l)
		want(t, "Anew of "+shown(x.x)+" and "+shown(x.l), l, e, x.anew, api.OK)
	}
	d := newDice(11)
	for range 3000 {
		from := d.from(0, 20)
		x := track(from, from+d.from(0, 60), d.from(0, 3), d.from(0, 9))
		var readings []int
		for range d.from(0, 8) {
			readings = append(readings, d.from(-15, 95))
		}
		scanned := func(p int) bool { return isScanned(x, readings, p) }
		l, e := cover.Scanned(x, readings)
		want(t, "Scanned", l, e, ranges(x, scanned), api.OK)
		l, e = cover.Anew(x, readings)
		want(t, "Anew", l, e, ranges(x, func(p int) bool { return !scanned(p) }), api.OK)
	}
}

func TestP7_5Errors(t *testing.T) {
	check := func(what string, x api.CoverTrack, readings []int, right api.Errno) {
		t.Helper()
		l, e := cover.Scanned(x, readings)
		want(t, "Scanned of "+what, l, e, nil, right)
		l, e = cover.Anew(x, readings)
		want(t, "Anew of "+what, l, e, nil, right)
	}
	for _, x := range wrongTracks() {
		check("a wrong track", x.x, make([]int, 201), x.right)
	}
	track, many := api.CoverTrack{To: 100, Slip: 2, Reach: 10}, make([]int, 201)
	check("too many readings", track, many, api.ErrLarge)
	many[0] = smallest
	check("too many readings, and wrong ones", track, many, api.ErrLarge)
	for _, n := range []int{smallest, -2000001, 2000001, greatest} {
		check("a reading too far", track, []int{5, n}, api.ErrRange)
		many[199] = n
		check("the last reading too far", track, many[1:200], api.ErrRange)
	}
	l, e := cover.Scanned(track, make([]int, 200))
	want(t, "Scanned of the most readings", l, e, []api.Range{span(0, 8)}, api.OK)
}
