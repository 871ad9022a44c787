package flaw_test

import (
	"math/big"
	"slices"
	"testing"

	"couplant/api"
	"couplant/flaw"
)

// shuffled is a list in another order.
func shuffled[T any](d dice, l []T) []T {
	m := slices.Clone(l)
	d.Shuffle(len(m), func(n, k int) { m[n], m[k] = m[k], m[n] })
	return m
}

// cut is a scan as two ones, one of some rows and one of the others, if it has more than one and both may stand there.
func cut(d dice, s api.FlawScan) []api.FlawScan {
	last := min(s.Rows-1, api.MaxFlawPlace-s.Row)
	if last < 1 {
		return []api.FlawScan{s}
	}
	rows := d.from(1, last)
	top, bottom := s, s
	top.Rows, top.Data = rows, s.Data[:rows*s.Columns]
	bottom.Row, bottom.Rows, bottom.Data = s.Row+rows, s.Rows-rows, s.Data[rows*s.Columns:]
	return []api.FlawScan{bottom, top}
}

// has tells whether some cells are all among others.
func has(others, some [][2]int) bool {
	return !slices.ContainsFunc(some, func(cell [2]int) bool { return !slices.Contains(others, cell) })
}

// TestP8_9 tells scans in another order, twice, and cut; and asks for greater levels, and with corners.
func TestP8_9(t *testing.T) {
	d := newDice(11)
	lesser, more := 0, 0
	for range 500 {
		l := d.scans(9)
		l = l[:min(len(l), 5)]
		x := api.FlawAsk{Level: d.from(0, 9), Corners: d.from(0, 1) > 0}
		areas, e := flaw.Areas(l, x)
		again, f := flaw.Areas(shuffled(d, l), x)
		want(t, "Areas in another order", again, f, areas, e)
		if len(l) == 0 {
			continue
		}
		n := d.IntN(len(l))
		again, f = flaw.Areas(append(slices.Clone(l), l[n]), x)
		want(t, "Areas of a scan twice", again, f, areas, e)
		again, f = flaw.Areas(append(cut(d, l[n]), slices.Delete(slices.Clone(l), n, n+1)...), x)
		want(t, "Areas of a scan that is cut", again, f, areas, e)
		higher, f := flaw.Areas(l, api.FlawAsk{Level: x.Level + d.from(1, 3), Corners: x.Corners})
		for _, a := range higher {
			within := func(b api.FlawArea) bool { return has(b.Cells, a.Cells) }
			want(t, "whether an area lies within one of a lesser level", slices.ContainsFunc(areas, within), f, true, api.OK)
			lesser++
		}
		with, f := flaw.Areas(l, api.FlawAsk{Level: x.Level, Corners: true})
		without, _ := flaw.Areas(l, api.FlawAsk{Level: x.Level})
		for _, a := range with {
			var union [][2]int
			for _, b := range without {
				if has(a.Cells, b.Cells) {
					union = append(union, b.Cells...)
				}
			}
			want(t, "whether an area is a union", len(union), f, len(a.Cells), api.OK)
			more++
		}
	}
	if lesser < 500 || more < 500 {
		t.Error("too few areas:", lesser, more)
	}
}

// TestP8_10 looks for true depths and heights in their ranges.
func TestP8_10(t *testing.T) {
	d := newDice(12)
	// deep is a range of depths that has a depth, from its time at an offset.
	deep := func(depth, offset, speed int) api.Range {
		size := d.one(0, 3, 100000)
		// The time there and back is the root of this, by the speed.
		way := new(big.Int).Mul(sum(square(depth), square(offset)), square(20000000))
		time := int(new(big.Int).Sqrt(way).Int64()) / speed
		x := api.FlawTip{Time: ends(max(0, time-d.from(0, size)), time+1+d.from(0, size)), Speed: speed}
		x.Offset = ends(max(0, offset-d.from(0, size)), min(100000, offset+d.from(0, size)))
		r, e := flaw.TipDepth(x)
		want(t, "whether the depth is in its range "+shown(x), isIn(depth, r), e, true, api.OK)
		return r
	}
	for range 20000 {
		size, speed := d.one(5, 1000, 100000), d.from(500, 10000)
		depth := d.from(0, size)
		height := d.from(0, size)
		upper, lower := deep(depth, d.from(0, size), speed), deep(depth+height, d.from(0, size), speed)
		r, e := flaw.HeightOf(upper, lower)
		want(t, "whether the height is in its range", isIn(height, r), e, true, api.OK)
	}
}

// TestP8_11 looks whether hulls of groups interact, and groups marks in another order, and with greater gaps.
func TestP8_11(t *testing.T) {
	d := newDice(13)
	for range 1000 {
		l, r := d.marks(20), d.rule()
		groups, e := flaw.Grouped(l, r)
		var hulls []api.FlawMark
		for _, numbers := range groups {
			var marks []api.FlawMark
			for _, n := range numbers {
				marks = append(marks, l[n])
			}
			h, e := flaw.HullOf(marks)
			want(t, "HullOf a group", h, e, rightHull(l, numbers), api.OK)
			hulls = append(hulls, h)
		}
		for n := range hulls {
			for m := range n {
				is, e := flaw.Interact(hulls[m], hulls[n], r)
				want(t, "whether two hulls interact", is, e, false, api.OK)
			}
		}
		other := shuffled(d, l)
		again, f := flaw.Grouped(other, r)
		want(t, "the groups of marks in another order", named(other, again), f, named(l, groups), e)
		greater := r
		greater.Along += d.from(0, 5)
		greater.Down += d.from(0, 5)
		again, f = flaw.Grouped(l, greater)
		for _, numbers := range groups {
			within := func(more []int) bool {
				return !slices.ContainsFunc(numbers, func(n int) bool { return !slices.Contains(more, n) })
			}
			want(t, "whether a group lies within a greater one", slices.ContainsFunc(again, within), f, true, api.OK)
		}
	}
}

// named is groups by the names of their marks, in the order of these.
func named(l []api.FlawMark, groups [][]int) []string {
	var all []string
	for _, numbers := range groups {
		var names []string
		for _, n := range numbers {
			names = append(names, l[n].Name)
		}
		slices.Sort(names)
		all = append(all, shown(names))
	}
	slices.Sort(all)
	return all
}

// TestP8_12 holds right pairs against covers, and exchanges both lists.
func TestP8_12(t *testing.T) {
	d := newDice(14)
	for range 3000 {
		a, b, slack := d.marks(20), d.marks(20), d.one(0, 1, 3, 10)
		best, _, e := flaw.Compared(a, b, slack)
		exchanged, _, f := flaw.Compared(b, a, slack)
		want(t, "the number of pairs exchanged", len(exchanged), f, len(best), e)
		lists := [2][]api.FlawMark{a, b}
		var pairs [][2]int
		for range 20 {
			if len(a) == 0 || len(b) == 0 {
				break
			}
			more := append(slices.Clone(pairs), [2]int{d.IntN(len(a)), d.IntN(len(b))})
			if _, e := flaw.CheckPairs(lists, slack, more); e == api.OK {
				pairs = more
			}
		}
		members, e := flaw.CheckCover(lists, slack, api.FlawCover{First: d.some(len(a)), Second: d.some(len(b))})
		want(t, "whether pairs are more than members", e == api.OK && len(pairs) > members, api.OK, false, api.OK)
		want(t, "whether pairs are more than Compared has", len(pairs) > len(best), api.OK, false, api.OK)
	}
}
