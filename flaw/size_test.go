package flaw_test

import (
	"math/big"
	"testing"

	"couplant/api"
	"couplant/flaw"
)

// rightDrop is the length of a drop, as the chapter defines it, from a cell whose amplitude is above 0.
func rightDrop(l []api.FlawScan, peak [3]int, share api.Frac) (api.Range, api.Errno) {
	top, _ := rightAmplitude(l, [2]int{peak[0], peak[1]})
	at := func(step int) [2]int {
		if peak[2] == 0 {
			return [2]int{peak[0] + step, peak[1]}
		}
		return [2]int{peak[0], peak[1] + step}
	}
	isIn := func(step int) bool {
		amplitude, isKnown := rightAmplitude(l, at(step))
		return isKnown && product(amplitude, share.Den).Cmp(product(top, share.Num)) >= 0
	}
	a, b := 0, 0
	for isIn(a - 1) {
		a--
	}
	for isIn(b + 1) {
		b++
	}
	_, isAhead := rightAmplitude(l, at(a-1))
	_, isBehind := rightAmplitude(l, at(b+1))
	if !isAhead || !isBehind {
		return api.Range{}, api.ErrGap
	}
	return ends(b-a, b-a+2), api.OK
}

func TestP8_4DropRange(t *testing.T) {
	flat := []api.FlawScan{scanAt(-2, 7).of([]int{1, 4, 8, 5, 2})}
	high := []api.FlawScan{scanAt(0, 0).of([]int{499999999, 1000000000, 500000000, 0})}
	joined := []api.FlawScan{scanAt(0, 0).of([]int{8, 8}), scanAt(0, 2).of([]int{4, 3}), scanAt(0, -1).of([]int{3})}
	for _, x := range []struct {
		what  string
		l     []api.FlawScan
		peak  [3]int
		share api.Frac
		right api.Range
		e     api.Errno
	}{
		{"the third example", column(), [3]int{2, 0, 0}, frac(1, 2), ends(2, 4), api.OK}, {"its gap", column(), [3]int{2, 0, 0}, frac(1, 8), api.Range{}, api.ErrGap},
		{"a gap behind", column(), [3]int{2, 0, 0}, frac(1, 4), api.Range{}, api.ErrGap}, {"nothing ahead", column(), [3]int{0, 0, 0}, frac(1, 1), api.Range{}, api.ErrGap}, {"nothing behind", column(), [3]int{4, 0, 0}, frac(1, 1), api.Range{}, api.ErrGap},
		{"nothing beside", column(), [3]int{2, 0, 1}, frac(1, 2), api.Range{}, api.ErrGap}, {"more than 1/4", column(), [3]int{2, 0, 0}, frac(251, 1000), ends(2, 4), api.OK}, {"one cell alone", column(), [3]int{2, 0, 0}, frac(1, 1), ends(0, 2), api.OK},
		{"one more than half", column(), [3]int{2, 0, 0}, frac(501, 1000), ends(1, 3), api.OK}, {"5/8", column(), [3]int{2, 0, 0}, frac(5, 8), ends(1, 3), api.OK}, {"more than 5/8", column(), [3]int{2, 0, 0}, frac(626, 1000), api.Range{}, api.ErrForm}, {"just more than 5/8", column(), [3]int{2, 0, 0}, frac(627, 1000), ends(0, 2), api.OK},
		{"greater cells on a side", column(), [3]int{1, 0, 0}, frac(1, 1), ends(2, 4), api.OK}, {"greater cells, and a gap", column(), [3]int{1, 0, 0}, frac(1, 2), api.Range{}, api.ErrGap}, {"a lesser cell", column(), [3]int{3, 0, 0}, frac(4, 5), ends(2, 4), api.OK},
		{"along columns", flat, [3]int{-2, 9, 1}, frac(1, 2), ends(2, 4), api.OK}, {"along rows", flat, [3]int{-2, 9, 0}, frac(1, 2), api.Range{}, api.ErrGap},
		{"great amplitudes", high, [3]int{0, 1, 1}, frac(1, 2), ends(1, 3), api.OK}, {"great amplitudes, a lesser share", high, [3]int{0, 1, 1}, frac(499, 1000), api.Range{}, api.ErrGap},
		{"joined scans", joined, [3]int{0, 0, 1}, frac(1, 2), ends(2, 4), api.OK}, {"joined scans, from the last one", joined, [3]int{0, 2, 1}, frac(1, 1), ends(2, 4), api.OK}, {"all of joined scans", joined, [3]int{0, 0, 1}, frac(3, 8), api.Range{}, api.ErrGap},
	} {
		r, e := flaw.DropRange(x.l, x.peak, x.share)
		want(t, "DropRange of "+x.what, r, e, x.right, x.e)
	}
}

// TestP8_4Definition holds drops against their definition.
func TestP8_4Definition(t *testing.T) {
	d := newDice(4)
	counts := map[api.Errno]int{}
	shares := []api.Frac{frac(1, 2), frac(1, 1), frac(3, 4), frac(999, 1000), frac(1, 1000), frac(2, 3)}
	for range 1000 {
		l := d.scans(9)
		for _, cell := range cellsOf(l) {
			peak, share := [3]int{cell[0], cell[1], d.from(0, 1)}, shares[d.IntN(len(shares))]
			right, f := api.Range{}, api.ErrZero
			if top, _ := rightAmplitude(l, cell); top > 0 {
				right, f = rightDrop(l, peak, share)
			}
			r, e := flaw.DropRange(l, peak, share)
			want(t, "DropRange", r, e, right, f)
			counts[e]++
		}
	}
	for _, e := range []api.Errno{api.OK, api.ErrZero, api.ErrGap} {
		if counts[e] < 100 {
			t.Error("too few drops with the error", e)
		}
	}
}

func TestP8_4Errors(t *testing.T) {
	check := func(l []api.FlawScan, peak [3]int, share api.Frac, right api.Errno) {
		t.Helper()
		r, e := flaw.DropRange(l, peak, share)
		want(t, "DropRange "+shown(peak)+" "+shown(share), r, e, api.Range{}, right)
	}
	for _, x := range wrongScans() {
		check(x.l, [3]int{9, 9, 2}, api.Frac{}, x.right)
		check(x.l, [3]int{0, 0, 0}, frac(1, 2), x.right)
	}
	for _, along := range wrongNumbers(-1, 2) {
		check(column(), [3]int{9, 9, along}, api.Frac{}, api.ErrKind)
		check(column(), [3]int{2, 0, along}, frac(1, 2), api.ErrKind)
	}
	for _, f := range wrongForms() {
		check(column(), [3]int{9, 9, 0}, f, api.ErrForm)
		check(column(), [3]int{2, 0, 1}, f, api.ErrForm)
	}
	for _, f := range []api.Frac{frac(0, 1), frac(-1, 1), frac(-1, 2), frac(3, 2), frac(1001, 1000), frac(2, 1), frac(1, 1001), frac(1000, 1001), frac(smallest, 1), frac(greatest, 1), frac(1, greatest), frac(greatest-1, greatest)} {
		check(column(), [3]int{9, 9, 0}, f, api.ErrRange)
		check(column(), [3]int{2, 0, 1}, f, api.ErrRange)
	}
	for _, cell := range [][3]int{{5, 0, 0}, {-1, 0, 1}, {2, 1, 0}, {2, -1, 1}, {smallest, 0, 0}, {2, greatest, 1}} {
		check(column(), cell, frac(1, 2), api.ErrMissing)
	}
	check(nil, [3]int{0, 0, 0}, frac(1, 2), api.ErrMissing)
	for _, along := range []int{0, 1} {
		check(six(), [3]int{0, 1, along}, frac(1, 2), api.ErrZero)
		check(six(), [3]int{1, 2, along}, frac(1, 1), api.ErrZero)
	}
}

// rightTip is the depth of a right tip, as the chapter defines it.
func rightTip(x api.FlawTip) (api.Range, api.Errno) {
	by := whole(20000000)
	least, greatest := new(big.Int).Div(product(x.Time.Lo, x.Speed), by), new(big.Int).Div(product(x.Time.Hi, x.Speed), by)
	if new(big.Int).Mul(greatest, by).Cmp(product(x.Time.Hi, x.Speed)) < 0 {
		greatest = sum(greatest, whole(1))
	}
	low := less(new(big.Int).Mul(least, least), square(x.Offset.Hi))
	high := less(new(big.Int).Mul(greatest, greatest), square(x.Offset.Lo))
	if high.Sign() < 0 {
		return api.Range{}, api.ErrNone
	}
	if low.Sign() < 0 {
		low = whole(0)
	}
	top, bottom := new(big.Int).Sqrt(low), new(big.Int).Sqrt(high)
	if new(big.Int).Mul(bottom, bottom).Cmp(high) < 0 {
		bottom = sum(bottom, whole(1))
	}
	return ends(int(top.Int64()), int(bottom.Int64())), api.OK
}

// tip is a tip with a time and an offset, from lo to hi each.
func tip(lo, hi, near, far, speed int) api.FlawTip {
	return api.FlawTip{Time: ends(lo, hi), Offset: ends(near, far), Speed: speed}
}

func TestP8_5TipDepth(t *testing.T) {
	for _, x := range []struct {
		what  string
		x     api.FlawTip
		right api.Range
		e     api.Errno
	}{
		{"the fourth example", tip(10000000, 10000000, 1800, 1800, 6000), ends(2400, 2400), api.OK},
		{"no offset", tip(10000000, 10000000, 0, 0, 6000), ends(3000, 3000), api.OK},
		{"an uncertain offset", tip(10000000, 10000000, 0, 1800, 6000), ends(2400, 3000), api.OK},
		{"an uncertain time", tip(10000000, 20000000, 1800, 1800, 6000), ends(2400, 5724), api.OK},
		{"an offset as great as the way", tip(10000000, 10000000, 3000, 3000, 6000), ends(0, 0), api.OK},
		{"a greater offset", tip(10000000, 10000000, 3001, 3001, 6000), api.Range{}, api.ErrNone},
		{"an offset that may be greater", tip(10000000, 10000000, 2999, 3001, 6000), ends(0, 78), api.OK},
		{"a way that is rounded up", tip(10000001, 10000001, 3001, 3001, 6000), ends(0, 0), api.OK},
		{"ways that are rounded", tip(9999999, 10000001, 1800, 1800, 6000), ends(2398, 2402), api.OK},
		{"no time", tip(0, 0, 0, 0, 500), ends(0, 0), api.OK}, {"no time, but an offset", tip(0, 0, 1, 1, 500), api.Range{}, api.ErrNone},
		{"a short time", tip(1, 1, 0, 0, 500), ends(0, 1), api.OK}, {"a short time and an offset", tip(1, 1, 1, 1, 500), ends(0, 0), api.OK},
		{"the greatest numbers", tip(1000000000000, 1000000000000, 100000, 100000, 10000), ends(499999989, 499999990), api.OK},
		{"all that may be", tip(0, 1000000000000, 0, 100000, 10000), ends(0, 500000000), api.OK},
	} {
		r, e := flaw.TipDepth(x.x)
		want(t, "TipDepth of "+x.what, r, e, x.right, x.e)
		right, f := rightTip(x.x)
		want(t, "the definition of "+x.what, right, f, x.right, x.e)
	}
	d := newDice(5)
	counts := map[api.Errno]int{}
	for range 20000 {
		size, across := d.one(100, 1000000, 100000000, 1000000000000), d.one(3, 500, 100000)
		times, offsets := ends(d.from(0, size), 0), ends(d.from(0, across), 0)
		times.Hi, offsets.Hi = d.from(times.Lo, size), d.from(offsets.Lo, across)
		x := api.FlawTip{Time: times, Offset: offsets, Speed: d.from(500, 10000)}
		right, f := rightTip(x)
		r, e := flaw.TipDepth(x)
		want(t, "TipDepth of "+shown(x), r, e, right, f)
		counts[e]++
	}
	if counts[api.OK] < 1000 || counts[api.ErrNone] < 1000 {
		t.Error("too few tips, or too few that are too far:", counts)
	}
}

func TestP8_5TipErrors(t *testing.T) {
	check := func(x api.FlawTip, right api.Errno) {
		t.Helper()
		r, e := flaw.TipDepth(x)
		want(t, "TipDepth of "+shown(x), r, e, api.Range{}, right)
	}
	for _, n := range wrongNumbers(-1, 1000000000001) {
		check(tip(n, 5, -1, -1, 0), api.ErrRange)
		check(tip(5, n, 9, 8, 0), api.ErrRange)
		check(tip(n, n, 9, 9, 6000), api.ErrRange)
	}
	check(tip(6, 5, -1, -1, 0), api.ErrOrder)
	check(tip(1000000000000, 0, 5, 5, 6000), api.ErrOrder)
	for _, n := range wrongNumbers(-1, 100001) {
		check(tip(5, 6, n, 5, 0), api.ErrRange)
		check(tip(5, 6, 5, n, 0), api.ErrRange)
		check(tip(5, 6, n, n, 6000), api.ErrRange)
	}
	check(tip(5, 6, 1, 0, 0), api.ErrOrder)
	check(tip(5, 6, 100000, 0, 6000), api.ErrOrder)
	for _, n := range wrongNumbers(-500, 0, 499, 10001) {
		check(tip(5, 6, 5, 6, n), api.ErrRange)
	}
	check(tip(5, 6, 5, 6, 500), api.ErrNone)
}

func TestP8_5HeightOf(t *testing.T) {
	for _, x := range []struct{ upper, lower, right api.Range }{
		{ends(2400, 2410), ends(2500, 2520), ends(90, 120)}, {ends(10, 20), ends(5, 10), ends(0, 0)}, {ends(10, 20), ends(15, 30), ends(0, 20)}, {ends(10, 20), ends(20, 30), ends(0, 20)}, {ends(10, 20), ends(21, 30), ends(1, 20)},
		{ends(5, 5), ends(5, 5), ends(0, 0)}, {ends(0, 0), ends(0, 0), ends(0, 0)}, {ends(-30, -20), ends(-10, 5), ends(10, 35)},
		{ends(-1000000000, -1000000000), ends(1000000000, 1000000000), ends(2000000000, 2000000000)}, {ends(-1000000000, 1000000000), ends(-1000000000, 1000000000), ends(0, 2000000000)},
	} {
		r, e := flaw.HeightOf(x.upper, x.lower)
		want(t, "HeightOf "+shown(x.upper)+" "+shown(x.lower), r, e, x.right, api.OK)
	}
	check := func(upper, lower api.Range, right api.Errno) {
		t.Helper()
		r, e := flaw.HeightOf(upper, lower)
		want(t, "HeightOf "+shown(upper)+" "+shown(lower), r, e, api.Range{}, right)
	}
	high, low := ends(2400, 2410), ends(2500, 2520)
	for _, n := range wrongNumbers(-1000000001, 1000000001) {
		check(ends(n, 2410), ends(6, 5), api.ErrRange)
		check(ends(2400, n), ends(6, 5), api.ErrRange)
		check(ends(n, n), low, api.ErrRange)
		check(high, ends(n, 2520), api.ErrRange)
		check(high, ends(2500, n), api.ErrRange)
		check(high, ends(n, n), api.ErrRange)
		check(ends(6, 5), ends(n, n), api.ErrOrder)
	}
	check(ends(2411, 2410), low, api.ErrOrder)
	check(high, ends(2521, 2520), api.ErrOrder)
	check(high, ends(6, 5), api.ErrOrder)
	check(ends(10, 20), ends(5, 9), api.ErrBreak)
	check(ends(1000000000, 1000000000), ends(-1000000000, 999999999), api.ErrBreak)
}
