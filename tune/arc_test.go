package tune_test

import (
	"testing"

	"couplant/api"
	"couplant/tune"
)

// many is so many arcs that nothing tells apart but their radiuses.
func many(count int) []api.TuneArc {
	var l []api.TuneArc
	for n := range count {
		l = append(l, arc(n+1, 0, 1000000000000))
	}
	return l
}

func TestP6_3CheckArcs(t *testing.T) {
	for _, l := range [][]api.TuneArc{sharp(), apart(), many(2), many(12), {arc(1, 0, 0), arc(100000, 1000000000000, 1000000000000)}, {arc(5, 9, 9), arc(6, 1, 2)}} {
		n, e := tune.CheckArcs(l)
		want(t, "CheckArcs of "+shown(l), n, e, 0, api.OK)
	}
	for _, x := range append(wrongArcs(), wrongArc{many(13), 0, api.ErrLarge}) {
		n, e := tune.CheckArcs(x.l)
		want(t, "CheckArcs of "+shown(x.l), n, e, x.n, x.right)
	}
}

func TestP6_3Ranges(t *testing.T) {
	for _, x := range []struct {
		what   string
		l      []api.TuneArc
		speeds api.Range
		e      api.Errno
		delays api.Range
		f      api.Errno
	}{
		{"the third example", sharp(), ends(3333, 3334), api.OK, ends(5000000, 5000000), api.OK},
		{"the fourth example", apart(), api.Range{}, api.ErrNone, api.Range{}, api.ErrNone},
		{"a slowness of 0", []api.TuneArc{arc(1, 0, 9), arc(2, 9, 9)}, api.Range{}, api.ErrZero, ends(-9, 9), api.OK},
		{"a slowness above 0", []api.TuneArc{arc(1, 0, 8), arc(2, 9, 9)}, ends(2222222, 20000000), api.OK, ends(-9, 7), api.OK},
		{"a slowness below 0", []api.TuneArc{arc(1, 9, 9), arc(2, 5, 5)}, api.Range{}, api.ErrZero, ends(13, 13), api.OK},
		{"a slowness just possible", []api.TuneArc{arc(1, 0, 0), arc(2, 3, 4), arc(3, 6, 6)}, ends(6666666, 6666667), api.OK, ends(-3, -3), api.OK},
		{"a slowness just not possible", []api.TuneArc{arc(1, 0, 0), arc(2, 4, 4), arc(3, 6, 6)}, api.Range{}, api.ErrNone, api.Range{}, api.ErrNone},
		{"delays of parts", []api.TuneArc{arc(2, 5, 5), arc(5, 7, 7)}, ends(30000000, 30000000), api.OK, ends(3, 4), api.OK},
		{"delays of parts below 0", []api.TuneArc{arc(2, 1, 1), arc(5, 7, 8)}, ends(8571428, 10000000), api.OK, ends(-4, -3), api.OK},
		{"the greatest numbers", []api.TuneArc{arc(99999, 0, 0), arc(100000, 1000000000000, 1000000000000)}, ends(0, 1), api.OK, ends(-99999000000000000, -99999000000000000), api.OK},
		{"the least slowness", []api.TuneArc{arc(1, 0, 0), arc(100000, 1, 1)}, ends(1999980000000, 1999980000000), api.OK, ends(-1, 0), api.OK},
	} {
		r, e := tune.SpeedRange(x.l)
		want(t, "SpeedRange of "+x.what, r, e, x.speeds, x.e)
		r, e = tune.DelayRange(x.l)
		want(t, "DelayRange of "+x.what, r, e, x.delays, x.f)
	}
}

// TestP6_3RangesDefinition holds the ranges against the corners of what explains the arcs.
func TestP6_3RangesDefinition(t *testing.T) {
	d := newDice(4)
	errors := map[api.Errno]int{}
	for range 3000 {
		l := d.arcs()
		right, f := rightSpeeds(l)
		r, e := tune.SpeedRange(l)
		want(t, "SpeedRange of "+shown(l), r, e, right, f)
		errors[f]++
		right, f = rightDelays(l)
		r, e = tune.DelayRange(l)
		want(t, "DelayRange of "+shown(l), r, e, right, f)
	}
	for _, e := range []api.Errno{api.OK, api.ErrNone, api.ErrZero} {
		if errors[e] < 100 {
			t.Error("too few arcs have the error", e)
		}
	}
}

func TestP6_3Contradiction(t *testing.T) {
	for _, x := range []struct {
		l     []api.TuneArc
		right [3]int
		e     api.Errno
	}{
		{apart(), [3]int{0, 1, 2}, api.OK},
		{sharp(), [3]int{}, api.ErrNone}, {many(12), [3]int{}, api.ErrNone}, {[]api.TuneArc{arc(1, 9, 9), arc(2, 0, 0)}, [3]int{}, api.ErrNone},
		// The line through the greatest ends: 5 at 2; through the least ends: 3.
		{[]api.TuneArc{arc(1, 2, 4), arc(2, 5, 9), arc(3, 4, 6)}, [3]int{}, api.ErrNone}, {[]api.TuneArc{arc(1, 2, 4), arc(2, 6, 9), arc(3, 4, 6)}, [3]int{0, 1, 2}, api.OK},
		{[]api.TuneArc{arc(1, 2, 4), arc(2, 0, 3), arc(3, 4, 6)}, [3]int{}, api.ErrNone}, {[]api.TuneArc{arc(1, 2, 4), arc(2, 0, 2), arc(3, 4, 6)}, [3]int{0, 1, 2}, api.OK},
		// Lines with parts: 1/3 and 2/3.
		{[]api.TuneArc{arc(1, 0, 0), arc(2, 1, 1), arc(4, 1, 1)}, [3]int{0, 1, 2}, api.OK}, {[]api.TuneArc{arc(1, 0, 0), arc(2, 0, 0), arc(4, 1, 1)}, [3]int{0, 1, 2}, api.OK}, {[]api.TuneArc{arc(1, 0, 0), arc(2, 0, 1), arc(4, 1, 1)}, [3]int{}, api.ErrNone},
		{append(many(9), arc(97, 5, 5), arc(98, 5, 5), arc(99, 4, 4)), [3]int{9, 10, 11}, api.OK},
		{[]api.TuneArc{arc(1, 0, 0), arc(2, 0, 9), arc(3, 0, 0), arc(4, 5, 5), arc(5, 0, 0)}, [3]int{0, 2, 3}, api.OK},
	} {
		n, e := tune.Contradiction(x.l)
		want(t, "Contradiction of "+shown(x.l), n, e, x.right, x.e)
	}
	d := newDice(5)
	for range 1000 {
		l := d.arcs()
		right, f := [3]int{}, api.ErrNone
		for n := range len(l) * len(l) * len(l) {
			i, j, k := n/len(l)/len(l), n/len(l)%len(l), n%len(l)
			if i < j && j < k && doContradict(l[i], l[j], l[k]) {
				right, f = [3]int{i, j, k}, api.OK
				break
			}
		}
		got, e := tune.Contradiction(l)
		want(t, "Contradiction of "+shown(l), got, e, right, f)
	}
}

func TestP6_3Explains(t *testing.T) {
	wide := sharp()
	wide[0].Time, wide[1].Time = ends(19999000, 20002000), ends(34990000, 35010000)
	late := []api.TuneArc{arc(1, 1000000000000, 1000000000000), arc(2, 1000000000000, 1000000000000)}
	for _, x := range []struct {
		l            []api.TuneArc
		delay, speed int
		right        bool
	}{
		{sharp(), 5000000, 3333, false}, {wide, 5000000, 3333, true}, {wide, 5000000, 3334, false}, {wide, 5000000, 3332, false},
		{sharp(), 10000000, 5000, false}, {[]api.TuneArc{arc(2500, 20000000, 20000000), arc(5000, 30000000, 30000000)}, 10000000, 5000, true},
		{[]api.TuneArc{arc(2500, 20000000, 20000000), arc(5000, 30000001, 30000001)}, 10000000, 5000, false}, {[]api.TuneArc{arc(2500, 19999999, 19999999), arc(5000, 30000000, 30000000)}, 10000000, 5000, false},
		{[]api.TuneArc{arc(1, 0, 0), arc(2, 20000, 20000)}, -20000, 1000, true}, {many(12), 1000000000000, 10000, false}, {many(12), -1000000000000, 500, false}, {many(12), 0, 500, true}, {many(12), 0, 10000, true},
		{late, 1000000000000, 10000, false}, {many(2), -20000, 1000, true}, {many(2), -20001, 1000, false}, {many(2), 999999960000, 1000, true}, {many(2), 999999960001, 1000, false},
	} {
		ok, e := tune.Explains(x.l, x.delay, x.speed)
		want(t, "Explains", ok, e, x.right, api.OK)
	}
	d := newDice(6)
	explained := 0
	for range 1000 {
		l := []api.TuneArc{}
		delay, speed, radius := d.from(-1000, 1000000), d.from(500, 10000), 0
		for range d.from(2, 5) {
			radius += d.from(1, 300)
			time := delay + 2*radius*10000000/speed
			l = append(l, arc(radius, max(0, time-d.from(-1, 4)), max(0, time+d.from(-1, 4))))
			l[len(l)-1].Time.Hi = max(l[len(l)-1].Time.Lo, l[len(l)-1].Time.Hi)
		}
		right := vertex{slowness: rational(10000000, speed), delay: whole(delay)}.doExplain(l)
		ok, e := tune.Explains(l, delay, speed)
		want(t, "Explains", ok, e, right, api.OK)
		if right {
			explained++
		}
	}
	if explained < 100 || explained > 900 {
		t.Error("too few arcs are explained, or are not:", explained)
	}
}

func TestP6_3Errors(t *testing.T) {
	times, speeds := []int{-1000000000001, 1000000000001, smallest, greatest}, []int{499, 10001, 0, -500, smallest, greatest}
	for _, x := range append(wrongArcs(), wrongArc{many(13), 0, api.ErrLarge}) {
		r, e := tune.SpeedRange(x.l)
		want(t, "SpeedRange", r, e, api.Range{}, x.right)
		r, e = tune.DelayRange(x.l)
		want(t, "DelayRange", r, e, api.Range{}, x.right)
		three, e := tune.Contradiction(x.l)
		want(t, "Contradiction", three, e, [3]int{}, x.right)
		for _, delay := range append(times, 0) {
			for _, speed := range append(speeds, 500) {
				ok, e := tune.Explains(x.l, delay, speed)
				want(t, "Explains", ok, e, false, x.right)
			}
		}
	}
	for _, delay := range times {
		ok, e := tune.Explains(many(2), delay, 500)
		want(t, "Explains with a wrong delay", ok, e, false, api.ErrRange)
	}
	for _, speed := range speeds {
		ok, e := tune.Explains(many(2), 0, speed)
		want(t, "Explains with a wrong speed", ok, e, false, api.ErrRange)
	}
}
