package tune

import (
	"cmp"

	"couplant/api"
	"couplant/base"
)

// point has a height at a place: an echo at a depth, or a time at a radius.
type point struct{ at, height int }

// line goes through two points, the first one of which is at the lesser place.
type line struct{ from, to point }

// heightAt is the height of a line at a place.
func (l line) heightAt(place int) quotient {
	return quotient{
		num: l.from.height*(l.to.at-place) + l.to.height*(place-l.from.at),
		den: l.to.at - l.from.at,
	}
}

// quotient is num / den; den is above 0.
type quotient struct{ num, den int }

// compared tells which of two quotients is less.
func compared(a, b quotient) int { return cmp.Compare(a.num*b.den, b.num*a.den) }

// down is a quotient rounded down.
func (q quotient) down() int { return base.DividedDown(q.num, q.den) }

// up is a quotient rounded up.
func (q quotient) up() int { return base.DividedUp(q.num, q.den) }

// enclosed is a quotient rounded down and up.
func (q quotient) enclosed() api.Range { return api.Range{Lo: q.down(), Hi: q.up()} }

// isBelow tells whether a quotient is less than a number.
func (q quotient) isBelow(n int) bool { return q.num < n*q.den }

// isAbove tells whether a quotient is greater than a number.
func (q quotient) isAbove(n int) bool { return q.num > n*q.den }

// isOff tells whether a quotient differs from a number by more than a slack.
func (q quotient) isOff(n, slack int) bool { return q.isBelow(n-slack) || q.isAbove(n+slack) }
