package cover

import (
	"couplant/api"
	"couplant/base"
)

// part is the points of a face from one to another one that a set-up meets; there are none if the first one is behind the last one.
type part struct {
	api.CoverPart     // its ends
	setup         int // the number of the set-up
}

// compared tells which of two points comes first.
func compared(a, b api.CoverPoint) int { return base.ComparedProducts(a.Num, b.Den, b.Num, a.Den) }

func later(a, b api.CoverPoint) api.CoverPoint {
	if compared(a, b) < 0 {
		return b
	}
	return a
}

func earlier(a, b api.CoverPoint) api.CoverPoint {
	if compared(a, b) > 0 {
		return b
	}
	return a
}

// firstPoint and lastPoint are the ends of each face.
func firstPoint() api.CoverPoint { return api.CoverPoint{Num: 0, Den: 1} }

func lastPoint() api.CoverPoint { return api.CoverPoint{Num: 1, Den: 1} }

// wholeFace is all points of a face, nothing none of them.
func wholeFace() api.CoverPart { return api.CoverPart{From: firstPoint(), To: lastPoint()} }

func nothing() part { return part{CoverPart: api.CoverPart{From: lastPoint(), To: firstPoint()}} }

// isSome tells whether a part has points.
func (p part) isSome() bool { return compared(p.From, p.To) <= 0 }

// has tells whether a part has a point.
func (p part) has(x api.CoverPoint) bool {
	return compared(p.From, x) <= 0 && compared(x, p.To) <= 0
}

// cut is the points of a part at which a line is 0 or more.
func (p part) cut(l line) part {
	switch {
	case l.from < 0 && l.to < 0:
		return nothing()
	case l.from < 0:
		p.From = later(p.From, l.zero())
	case l.to < 0:
		p.To = earlier(p.To, l.zero())
	}
	return p
}

// common is the points that two parts have in common.
func (p part) common(q part) part {
	p.From, p.To = later(p.From, q.From), earlier(p.To, q.To)
	return p
}

// part is the part of a face that is met in a sight.
func (s sight) part() part {
	if s.turn == 0 {
		return nothing()
	}
	p := part{CoverPart: wholeFace()}
	for _, l := range s.conditions {
		p = p.cut(l)
	}
	return p
}
