package tune_test

import (
	"math/bits"
	"slices"
	"testing"

	"couplant/api"
	"couplant/tune"
)

func TestP6_1CheckTable(t *testing.T) {
	for _, l := range [][]api.TuneRow{slope(), four(), rowsAt(0), rowsAt(100000), rowsAt(rising(20)...), {{Depth: 0, Echo: 1}, {Depth: 100000, Echo: 1000000}}} {
		n, e := tune.CheckTable(l)
		want(t, "CheckTable", n, e, 0, api.OK)
	}
	for _, x := range wrongTables() {
		n, e := tune.CheckTable(x.l)
		want(t, "CheckTable of "+shown(x.l), n, e, x.n, x.right)
	}
}

func TestP6_1EchoAt(t *testing.T) {
	for _, x := range []struct {
		l     []api.TuneRow
		depth int
		right api.Range
		e     api.Errno
	}{
		{slope(), 1500, ends(600, 600), api.OK}, {slope(), 1501, ends(599, 600), api.OK}, {slope(), 1000, ends(800, 800), api.OK}, {slope(), 2000, ends(400, 400), api.OK},
		{slope(), 999, api.Range{}, api.ErrNone}, {slope(), 2001, api.Range{}, api.ErrNone}, {slope(), 0, api.Range{}, api.ErrNone}, {slope(), 100000, api.Range{}, api.ErrNone},
		{slope(), -1, api.Range{}, api.ErrRange}, {slope(), 100001, api.Range{}, api.ErrRange}, {slope(), smallest, api.Range{}, api.ErrRange}, {slope(), greatest, api.Range{}, api.ErrRange},
		{rowsAt(7), 7, ends(1, 1), api.OK}, {rowsAt(7), 6, api.Range{}, api.ErrNone}, {rowsAt(7), 8, api.Range{}, api.ErrNone},
		{[]api.TuneRow{{Depth: 0, Echo: 1000000}, {Depth: 100000, Echo: 1}}, 99999, ends(10, 11), api.OK},
		{[]api.TuneRow{{Depth: 0, Echo: 1}, {Depth: 3, Echo: 2}}, 2, ends(1, 2), api.OK},
	} {
		r, e := tune.EchoAt(x.l, x.depth)
		want(t, "EchoAt of "+shown(x.l), r, e, x.right, x.e)
	}
	d := newDice(1)
	for range 500 {
		l := d.table(20)
		for range 10 {
			depth := d.from(l[0].Depth, l[len(l)-1].Depth)
			echo := rightEcho(l, depth)
			r, e := tune.EchoAt(l, depth)
			want(t, "EchoAt", r, e, enclosed(echo, echo), api.OK)
		}
	}
}

func TestP6_1Gains(t *testing.T) {
	for _, x := range []struct {
		depth, target int
		right         api.Range
	}{{1500, 600, ends(1000, 1000)}, {1000, 600, ends(750, 750)}, {2000, 1, ends(2, 3)}, {2000, 1000000, ends(2500000, 2500000)}, {1501, 600, ends(1000, 1001)}} {
		r, e := tune.GainAt(slope(), x.depth, x.target)
		want(t, "GainAt", r, e, x.right, api.OK)
	}
	for _, x := range []struct {
		row    api.TuneRow
		target int
		right  api.Range
	}{
		{api.TuneRow{Depth: 2000, Echo: 300}, 800, ends(600, 600)}, {api.TuneRow{Depth: 1500, Echo: 1}, 1, ends(0, 1)},
		{api.TuneRow{Depth: 1000, Echo: 800}, 123, ends(123, 123)}, {api.TuneRow{Depth: 1501, Echo: 7}, 3, ends(0, 1)},
	} {
		r, e := tune.Equalised(slope(), x.row, x.target)
		want(t, "Equalised", r, e, x.right, api.OK)
	}
	wide := []api.TuneRow{{Depth: 0, Echo: 1}, {Depth: 100000, Echo: 2}}
	r, e := tune.Equalised(wide, api.TuneRow{Depth: 1, Echo: 1000000}, 1000000)
	want(t, "Equalised of the greatest echoes", r, e, ends(999990000099, 999990000100), api.OK)
	d := newDice(2)
	for range 500 {
		l := d.table(20)
		x := api.TuneRow{Depth: d.from(l[0].Depth, l[len(l)-1].Depth), Echo: d.from(1, 1000000)}
		target := d.from(1, []int{10, 1000000}[d.IntN(2)])
		gain := share(whole(1000*target), rightEcho(l, x.Depth))
		r, e := tune.GainAt(l, x.Depth, target)
		want(t, "GainAt", r, e, enclosed(gain, gain), api.OK)
		echo := share(product(whole(x.Echo), whole(target)), rightEcho(l, x.Depth))
		r, e = tune.Equalised(l, x, target)
		want(t, "Equalised", r, e, enclosed(echo, echo), api.OK)
	}
}

// TestP6_1Errors mixes wrong tables, depths and echoes: the first of them counts.
func TestP6_1Errors(t *testing.T) {
	wanted := func(l []api.TuneRow, depth, echo, target int, right api.Errno) {
		t.Helper()
		r, e := tune.Equalised(l, api.TuneRow{Depth: depth, Echo: echo}, target)
		want(t, "Equalised", r, e, api.Range{}, right)
		if echo != 1 {
			return
		}
		r, e = tune.GainAt(l, depth, target)
		want(t, "GainAt", r, e, api.Range{}, right)
		if target != 1 {
			return
		}
		r, e = tune.EchoAt(l, depth)
		want(t, "EchoAt", r, e, api.Range{}, right)
	}
	for _, x := range wrongTables() {
		for _, depth := range []int{0, 1, 5, -1} {
			wanted(x.l, depth, 1, 1, x.right)
			wanted(x.l, depth, 1, 0, x.right)
			wanted(x.l, depth, 0, 1, x.right)
		}
	}
	for depth, right := range map[int]api.Errno{-1: api.ErrRange, 100001: api.ErrRange, smallest: api.ErrRange, greatest: api.ErrRange, 999: api.ErrNone, 2001: api.ErrNone} {
		wanted(slope(), depth, 1, 1, right)
		for _, echo := range wrongEchoes() {
			wanted(slope(), depth, echo, 1, right)
			wanted(slope(), depth, 1, echo, right)
		}
	}
	for _, echo := range wrongEchoes() {
		wanted(slope(), 1500, echo, 1, api.ErrRange)
		wanted(slope(), 1500, 1, echo, api.ErrRange)
	}
}

// rightThinned tries all choices of rows, as numbers of bits, and takes the first one of the least.
func rightThinned(l []api.TuneRow, slack int) []int {
	var best []int
	for choice := range uint(1) << len(l) {
		var numbers []int
		for n := range l {
			if choice>>n&1 == 1 {
				numbers = append(numbers, n)
			}
		}
		hasEnds := choice&1 == 1 && bits.Len(choice) == len(l)
		isLess := best == nil || len(numbers) < len(best) || len(numbers) == len(best) && slices.Compare(numbers, best) < 0
		if hasEnds && isLess && isKept(l, numbers, slack) {
			best = numbers
		}
	}
	return best
}

func TestP6_2Thinned(t *testing.T) {
	line := func(count int) []api.TuneRow {
		var l []api.TuneRow
		for n := range count {
			l = append(l, api.TuneRow{Depth: 5 * n, Echo: 1 + 3*n})
		}
		return l
	}
	bent := []api.TuneRow{{Depth: 0, Echo: 1}, {Depth: 1, Echo: 1000000}, {Depth: 100000, Echo: 1}}
	for _, x := range []struct {
		l     []api.TuneRow
		slack int
		right []int
	}{
		{four(), 1, []int{0, 3}}, {four(), 0, []int{0, 1, 2, 3}}, {rowsAt(7), 0, []int{0}}, {rowsAt(7), 1000000, []int{0}},
		{slope(), 0, []int{0, 1}}, {slope(), 1000000, []int{0, 1}}, {line(20), 0, []int{0, 19}}, {rowsAt(rising(20)...), 0, []int{0, 19}},
		{bent, 0, []int{0, 1, 2}}, {bent, 999998, []int{0, 1, 2}}, {bent, 999999, []int{0, 2}}, {bent, 1000000, []int{0, 2}},
		// 1 and 2 are kept by each other: the first one stays.
		{[]api.TuneRow{{Depth: 0, Echo: 1}, {Depth: 10, Echo: 10}, {Depth: 20, Echo: 10}, {Depth: 30, Echo: 1}}, 5, []int{0, 1, 3}},
		{[]api.TuneRow{{Depth: 0, Echo: 6}, {Depth: 10, Echo: 2}, {Depth: 20, Echo: 1}, {Depth: 30, Echo: 4}, {Depth: 40, Echo: 7}}, 4, []int{0, 1, 4}},
	} {
		l, e := tune.Thinned(x.l, x.slack)
		want(t, "Thinned of "+shown(x.l), l, e, x.right, api.OK)
	}
	d := newDice(3)
	fewer := 0
	for range 300 {
		l := d.table(8)
		slack := []int{0, 1, l[d.IntN(len(l))].Echo / 2, d.from(0, 9), d.from(0, 1000000)}[d.IntN(5)]
		right := rightThinned(l, slack)
		got, e := tune.Thinned(l, slack)
		want(t, "Thinned of "+shown(l), got, e, right, api.OK)
		if len(right) > 2 && len(right) < len(l) {
			fewer++
		}
	}
	if fewer < 30 {
		t.Error("too few tables lose some rows:", fewer)
	}
}

func TestP6_2Errors(t *testing.T) {
	wrong := []int{-1, 1000001, smallest, greatest}
	for _, x := range wrongTables() {
		for _, slack := range append(wrong, 0) {
			l, e := tune.Thinned(x.l, slack)
			want(t, "Thinned of a wrong table", l, e, nil, x.right)
		}
	}
	for _, slack := range wrong {
		l, e := tune.Thinned(slope(), slack)
		want(t, "Thinned with a wrong slack", l, e, nil, api.ErrRange)
	}
}
