package cover

import (
	"couplant/api"
	"couplant/base"
)

// line is a number that grows evenly along a face, told by what it is at From and at To.
type line struct{ from, to int }

func (l line) times(n int) line { return line{from: l.from * n, to: l.to * n} }

func (l line) plus(m line) line { return line{from: l.from + m.from, to: l.to + m.to} }

func (l line) less(m line) line { return l.plus(m.times(-1)) }

// zero is the point where a line is 0, if it is below 0 at just one of both ends.
func (l line) zero() api.CoverPoint {
	return api.CoverPoint(base.Lowest(base.Size(l.from), base.Size(l.to-l.from)))
}

// sight is how a set-up sees a face.
type sight struct {
	turn       int     // on which side of the beams the face goes on; 0 if it goes along them
	conditions [4]line // all are 0 or more just at the points that are met, if turn is not 0
}

// sightOf is how a set-up sees a face of a joint that is so thick.
func sightOf(f api.CoverFace, thick int, s api.CoverSetup) sight {
	if s.Legs == 2 {
		f.From.Z, f.To.Z = 2*thick-f.From.Z, 2*thick-f.To.Z
	}
	way, at := wayOf(f), api.Spot{X: s.At, Z: 0}
	from, to := wayBetween(at, f.From), wayBetween(at, f.To)
	across := line{from: s.Side * from.X, to: s.Side * to.X}
	down := line{from: from.Z, to: to.Z}
	turn := turned(way, from)
	most := base.Size(turn) * s.Tilt.Num
	allowed := line{from: most, to: most}
	tilted := line{from: along(way, from), to: along(way, to)}.times(s.Tilt.Den)
	return sight{turn: turn, conditions: [4]line{
		across.times(s.Least.Den).less(down.times(s.Least.Num)),
		down.times(s.Most.Num).less(across.times(s.Most.Den)),
		allowed.less(tilted),
		allowed.plus(tilted),
	}}
}
