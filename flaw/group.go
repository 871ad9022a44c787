package flaw

import (
	"cmp"
	"slices"

	"couplant/api"
	"couplant/base"
)

// group is the numbers of marks, and their hull.
type group struct {
	numbers []int
	hull    api.FlawMark
}

// Interact returns whether two marks interact by a rule.
func Interact(a, b api.FlawMark, r api.FlawRule) (bool, api.Errno) {
	if e := base.FirstOf(markError(a), markError(b), CheckRule(r)); e != api.OK {
		return false, e
	}
	return doInteract(a, b, r), api.OK
}

// HullOf returns the hull of marks.
func HullOf(l []api.FlawMark) (api.FlawMark, api.Errno) {
	if e := base.FirstOf(marksError(l), base.Unless(len(l) > 0, api.ErrShape)); e != api.OK {
		return api.FlawMark{}, e
	}
	return hullOf(l[0], l[1:]...), api.OK
}

// Grouped returns the groups of marks by a rule.
func Grouped(l []api.FlawMark, r api.FlawRule) ([][]int, api.Errno) {
	if e := base.FirstOf(marksError(l), CheckRule(r)); e != api.OK {
		return nil, e
	}
	var lists [][]int
	for _, g := range groupsOf(l, r) {
		lists = append(lists, slices.Sorted(slices.Values(g.numbers)))
	}
	slices.SortFunc(lists, func(a, b []int) int { return cmp.Compare(a[0], b[0]) })
	return lists, api.OK
}

// groupsOf is the groups of marks, in any order.
func groupsOf(l []api.FlawMark, r api.FlawRule) []group {
	var groups []group
	for n, m := range l {
		g := group{numbers: []int{n}, hull: m}
		joins := func(other group) bool { return doInteract(g.hull, other.hull, r) }
		// The groups before do not interact with each other, but with one that grows they may.
		for at := slices.IndexFunc(groups, joins); at >= 0; at = slices.IndexFunc(groups, joins) {
			g = g.with(groups[at])
			groups = slices.Delete(groups, at, at+1)
		}
		groups = append(groups, g)
	}
	return groups
}

// with is two groups as one.
func (g group) with(other group) group {
	return group{
		numbers: slices.Concat(g.numbers, other.numbers),
		hull:    hullOf(g.hull, other.hull),
	}
}

// hullOf is the hull of a mark and others.
func hullOf(first api.FlawMark, others ...api.FlawMark) api.FlawMark {
	hull := first
	for _, m := range others {
		hull.Along = around(hull.Along, m.Along)
		hull.Depth = around(hull.Depth, m.Depth)
		hull.Level = max(hull.Level, m.Level)
	}
	return hull
}

// doInteract is Interact of right marks and a right rule.
func doInteract(a, b api.FlawMark, r api.FlawRule) bool {
	return isNear(a.Along, b.Along, r.Along, r.Share) && isNear(a.Depth, b.Depth, r.Down, r.Share)
}

// isNear tells whether the gap of two ranges is at most a number and the share of the lesser length.
func isNear(a, b api.Range, most int, share api.Frac) bool {
	lesser := min(a.Hi-a.Lo, b.Hi-b.Lo)
	return (gapOf(a, b)-most)*share.Den <= lesser*share.Num
}

// gapOf is how far two ranges lie apart.
func gapOf(a, b api.Range) int { return max(b.Lo-a.Hi, a.Lo-b.Hi, 0) }

// around is the least range that has two ranges.
func around(a, b api.Range) api.Range {
	return api.Range{Lo: min(a.Lo, b.Lo), Hi: max(a.Hi, b.Hi)}
}
