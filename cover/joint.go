package cover

import (
	"slices"

	"couplant/api"
	"couplant/base"
)

// Bevelled returns the joint with a V.
func Bevelled(b api.CoverBevel) (api.CoverJoint, api.Errno) {
	if e := bevelError(b); e != api.OK {
		return api.CoverJoint{}, e
	}
	wide := b.HalfGap + base.DividedDown((b.Thick-b.Land)*b.Tangent.Num, b.Tangent.Den)
	if wide > api.MaxCoverPlace {
		return api.CoverJoint{}, api.ErrLarge
	}
	j := api.CoverJoint{Name: b.Name, Thick: b.Thick, Zone: b.Zone}
	j.Faces = append(bevelledSide("l", -1, wide, b), bevelledSide("r", 1, wide, b)...)
	return j, api.OK
}

// bevelledSide is the land and the bevel, as far as there are both, on one side of a joint that is so wide at the surface, on each side.
func bevelledSide(letter string, side, wide int, b api.CoverBevel) []api.CoverFace {
	root := api.Spot{X: side * b.HalfGap, Z: b.Thick}
	edge := api.Spot{X: side * b.HalfGap, Z: b.Thick - b.Land}
	top := api.Spot{X: side * wide, Z: 0}
	var faces []api.CoverFace
	if root != edge {
		faces = append(faces, api.CoverFace{Name: letter + "-land", From: root, To: edge})
	}
	if edge != top {
		faces = append(faces, api.CoverFace{Name: letter + "-bevel", From: edge, To: top})
	}
	return faces
}

// SpotAt returns the place of a point of a face.
func SpotAt(j api.CoverJoint, face int, p api.CoverPoint) (api.Spot, api.Errno) {
	if e := base.FirstOf(faceError(j, face), pointError(p)); e != api.OK {
		return api.Spot{}, e
	}
	from, way := j.Faces[face].From, wayOf(j.Faces[face])
	return api.Spot{
		X: from.X + base.Rounded(p.Num*way.X, p.Den),
		Z: from.Z + base.Rounded(p.Num*way.Z, p.Den),
	}, api.OK
}

// InZone returns whether a place is in the zone of a joint.
func InZone(j api.CoverJoint, p api.Spot) (bool, api.Errno) {
	if e := base.FirstOf(jointError(j), base.PlaceError(p)); e != api.OK {
		return false, e
	}
	isNear := func(f api.CoverFace) bool { return isWithin(j.Zone, p, f) }
	return base.Within(p.Z, 0, j.Thick) && slices.ContainsFunc(j.Faces, isNear), api.OK
}

// isWithin tells whether the distance of a place from a face is a number at most.
func isWithin(most int, p api.Spot, f api.CoverFace) bool {
	way, from, to := wayOf(f), wayBetween(f.From, p), wayBetween(f.To, p)
	switch {
	case along(way, from) <= 0:
		return along(from, from) <= most*most
	case along(way, to) >= 0:
		return along(to, to) <= most*most
	}
	off := base.Size(turned(way, from))
	return base.ComparedProducts(off, off, most*most, along(way, way)) <= 0
}

// wayBetween is the way from one place to another one, wayOf that along a face.
func wayBetween(from, to api.Spot) api.Spot { return api.Spot{X: to.X - from.X, Z: to.Z - from.Z} }

func wayOf(f api.CoverFace) api.Spot { return wayBetween(f.From, f.To) }

// along is how far one way goes along another one, and turned how far it is turned off it, both times the sizes of both.
func along(way, other api.Spot) int { return way.X*other.X + way.Z*other.Z }

func turned(way, other api.Spot) int { return way.X*other.Z - way.Z*other.X }
