package cover

import (
	"iter"
	"slices"

	"couplant/api"
	"couplant/base"
)

// FirstGap returns the first gap of set-ups on a face.
func FirstGap(j api.CoverJoint, face int, l []api.CoverSetup) (api.CoverPart, api.Errno) {
	if e := base.FirstOf(faceError(j, face), setupsError(l)); e != api.OK {
		return api.CoverPart{}, e
	}
	gap, isGap := gapOf(partsOf(j, face, l))
	return gap, base.Unless(isGap, api.ErrNone)
}

// CheckPlan accepts a plan that covers a joint, or returns the number of the first face that is not covered, its first gap, and the error.
func CheckPlan(j api.CoverJoint, l []api.CoverSetup) (int, api.CoverPart, api.Errno) {
	if e := base.FirstOf(jointError(j), setupsError(l)); e != api.OK {
		return 0, api.CoverPart{}, e
	}
	for face := range j.Faces {
		if gap, isGap := gapOf(partsOf(j, face, l)); isGap {
			return face, gap, api.ErrGap
		}
	}
	return 0, api.CoverPart{}, api.OK
}

// Fewest returns the numbers of as few set-ups as possible that cover a face together, and as many points that are apart.
func Fewest(j api.CoverJoint, face int, l []api.CoverSetup) ([]int, []api.CoverPoint, api.Errno) {
	if e := base.FirstOf(faceError(j, face), setupsError(l)); e != api.OK {
		return nil, nil, e
	}
	parts := partsOf(j, face, l)
	if _, isGap := gapOf(parts); isGap {
		return nil, nil, api.ErrGap
	}
	numbers, points := fewest(parts)
	return numbers, points, api.OK
}

// CheckApart accepts points that are apart, and returns how many there are.
func CheckApart(j api.CoverJoint, x api.CoverChoice, p []api.CoverPoint) (int, api.Errno) {
	e := base.FirstOf(
		faceError(j, x.Face),
		setupsError(x.Setups),
		pointsError(p),
	)
	if e != api.OK {
		return 0, e
	}
	for _, q := range partsOf(j, x.Face, x.Setups) {
		n := slices.IndexFunc(p, q.has)
		// The points of a part follow one another.
		if n >= 0 && n+1 < len(p) && q.has(p[n+1]) {
			return 0, api.ErrProof
		}
	}
	return len(p), api.OK
}

// LeastPlan returns the numbers of the least set of set-ups that covers a joint.
func LeastPlan(j api.CoverJoint, l []api.CoverSetup) ([]int, api.Errno) {
	if e := base.FirstOf(jointError(j), setupsError(l)); e != api.OK {
		return nil, e
	}
	var faces [][]part
	for face := range j.Faces {
		faces = append(faces, partsOf(j, face, l))
	}
	for choice := range choices(len(l)) {
		if doCover(choice, faces) {
			return choice, api.OK
		}
	}
	return nil, api.ErrGap
}

// partsOf is the parts of a face that set-ups meet, in the order of their first points.
func partsOf(j api.CoverJoint, face int, l []api.CoverSetup) []part {
	var parts []part
	for n, s := range l {
		p := sightOf(j.Faces[face], j.Thick, s).part()
		p.setup = n
		if p.isSome() {
			parts = append(parts, p)
		}
	}
	slices.SortStableFunc(parts, func(p, q part) int { return compared(p.From, q.From) })
	return parts
}

// gapOf is the first gap between parts in their order; it tells whether there is one.
func gapOf(parts []part) (api.CoverPart, bool) {
	reach := firstPoint()
	for _, p := range parts {
		if compared(reach, p.From) < 0 {
			return api.CoverPart{From: reach, To: p.From}, true
		}
		reach = later(reach, p.To)
	}
	if compared(reach, lastPoint()) < 0 {
		return api.CoverPart{From: reach, To: lastPoint()}, true
	}
	return api.CoverPart{}, false
}

// fewest is the numbers of as few set-ups as possible, and as many points that are apart, of parts in their order that have no gap.
func fewest(parts []part) ([]int, []api.CoverPoint) {
	var numbers []int
	var points []api.CoverPoint
	reach, point := firstPoint(), firstPoint()
	for {
		begun, _ := dividedAt(reach, parts)
		best := slices.MaxFunc(begun, func(p, q part) int { return compared(p.To, q.To) })
		numbers, points = append(numbers, best.setup), append(points, point)
		reach = best.To
		if reach == lastPoint() {
			slices.Sort(numbers)
			return numbers, points
		}
		// No part goes from the last point to beyond the reach, and none begins between the reach and the next point.
		_, rest := dividedAt(reach, parts)
		point = pointBehind(reach, rest)
	}
}

// dividedAt is the parts, in their order, that begin at a point or before it, and those that begin behind it.
func dividedAt(x api.CoverPoint, parts []part) (begun, rest []part) {
	n := slices.IndexFunc(parts, func(p part) bool { return compared(p.From, x) > 0 })
	if n < 0 {
		return parts, nil
	}
	return parts[:n], parts[n:]
}

// pointBehind is a point behind another one, and ahead of the first one of some parts in their order.
func pointBehind(x api.CoverPoint, parts []part) api.CoverPoint {
	if len(parts) == 0 {
		return lastPoint()
	}
	next := parts[0].From
	return api.CoverPoint(base.Lowest(x.Num+next.Num, x.Den+next.Den))
}

// doCover tells whether a choice of set-ups covers faces, which are told by their parts in their order.
func doCover(choice []int, faces [][]part) bool {
	return !slices.ContainsFunc(faces, func(parts []part) bool {
		var chosen []part
		for _, p := range parts {
			if slices.Contains(choice, p.setup) {
				chosen = append(chosen, p)
			}
		}
		_, isGap := gapOf(chosen)
		return isGap
	})
}

// choices yields the numbers of all choices of some set-ups: of fewer ones first, then in their order.
func choices(setups int) iter.Seq[[]int] {
	return func(yield func(choice []int) bool) {
		var choose func(chosen []int, from, more int) bool
		choose = func(chosen []int, from, more int) bool {
			if more == 0 {
				return yield(slices.Clone(chosen))
			}
			for n := from; n+more <= setups; n++ {
				if !choose(append(chosen, n), n+1, more-1) {
					return false
				}
			}
			return true
		}
		for size := range setups + 1 {
			if !choose(nil, 0, size) {
				return
			}
		}
	}
}
