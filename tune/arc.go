package tune

import (
	"slices"

	"couplant/api"
	"couplant/base"
)

// slowest is the slowness of a speed of 1: a slowness is this by the speed.
const slowest = 10000000

// arcs are arcs that are right.
type arcs []api.TuneArc

// CheckArcs accepts arcs, or returns the number of a wrong one, and the error.
func CheckArcs(l []api.TuneArc) (int, api.Errno) {
	e := base.FirstOf(
		base.Unless(len(l) >= 2, api.ErrShape),
		base.Unless(len(l) <= api.MaxTuneArcs, api.ErrLarge),
	)
	if e != api.OK {
		return 0, e
	}
	return base.FirstIn(len(l), func(n int) api.Errno {
		return base.FirstOf(
			base.RangeError(l[n].Radius, 1, api.MaxPlace),
			base.EndsError(l[n].Time, 0, api.MaxTime),
			base.Unless(n == 0 || l[n].Radius > l[n-1].Radius, api.ErrOrder),
		)
	})
}

// SpeedRange returns the enclosure of all speeds that explain arcs with some delay.
func SpeedRange(l []api.TuneArc) (api.Range, api.Errno) {
	least, greatest, e := possible(l)
	if e = base.FirstOf(e, base.Unless(least.num > 0, api.ErrZero)); e != api.OK {
		return api.Range{}, e
	}
	return api.Range{Lo: speedOf(greatest).down(), Hi: speedOf(least).up()}, api.OK
}

// DelayRange returns the enclosure of all delays that explain arcs with some slowness.
func DelayRange(l []api.TuneArc) (api.Range, api.Errno) {
	if _, _, e := possible(l); e != api.OK {
		return api.Range{}, e
	}
	// A delay is the height of a line at the radius 0; two arcs let it be between those of their steepest and of their flattest line.
	var least, greatest []int
	for low, high := range arcs(l).pairs {
		least = append(least, steepest(low, high).heightAt(0).down())
		greatest = append(greatest, flattest(low, high).heightAt(0).up())
	}
	return api.Range{Lo: slices.Max(least), Hi: slices.Min(greatest)}, api.OK
}

// Contradiction returns the first three arcs that contradict.
func Contradiction(l []api.TuneArc) ([3]int, api.Errno) {
	if _, e := CheckArcs(l); e != api.OK {
		return [3]int{}, e
	}
	for low := range l {
		for middle := low + 1; middle < len(l); middle++ {
			for high := middle + 1; high < len(l); high++ {
				if contradict(l[low], l[middle], l[high]) {
					return [3]int{low, middle, high}, api.OK
				}
			}
		}
	}
	return [3]int{}, api.ErrNone
}

// Explains returns whether a delay and a speed explain all arcs.
func Explains(l []api.TuneArc, delay, speed int) (bool, api.Errno) {
	_, e := CheckArcs(l)
	if e = base.FirstOf(e, base.RangeError(delay, -api.MaxTime, api.MaxTime), base.SpeedError(speed)); e != api.OK {
		return false, e
	}
	isOutside := func(x api.TuneArc) bool {
		time := quotient{num: delay*speed + 2*x.Radius*slowest, den: speed}
		return time.isBelow(x.Time.Lo) || time.isAbove(x.Time.Hi)
	}
	return !slices.ContainsFunc(l, isOutside), api.OK
}

// pairs yields each two arcs, the one with the lesser radius first.
func (l arcs) pairs(yield func(low, high api.TuneArc) bool) {
	for n, high := range l {
		for _, low := range l[:n] {
			if !yield(low, high) {
				return
			}
		}
	}
}

// through is the line through a time of each of two arcs.
func through(low api.TuneArc, lowTime int, high api.TuneArc, highTime int) line {
	return line{
		from: point{at: low.Radius, height: lowTime},
		to:   point{at: high.Radius, height: highTime},
	}
}

// flattest is the line through two arcs that rises least, or falls most.
func flattest(low, high api.TuneArc) line { return through(low, low.Time.Hi, high, high.Time.Lo) }

// steepest is the line through two arcs that rises most, or falls least.
func steepest(low, high api.TuneArc) line { return through(low, low.Time.Lo, high, high.Time.Hi) }

// slowness is how much a line rises for a way there and back.
func (l line) slowness() quotient {
	return quotient{num: l.to.height - l.from.height, den: 2 * (l.to.at - l.from.at)}
}

// speedOf is the speed of a slowness above 0.
func speedOf(slowness quotient) quotient {
	return quotient{num: slowest * slowness.den, den: slowness.num}
}

// possible is the least and the greatest slowness that is possible, or the error of arcs, or ErrNone.
func possible(l []api.TuneArc) (least, greatest quotient, e api.Errno) {
	if _, e := CheckArcs(l); e != api.OK {
		return quotient{}, quotient{}, e
	}
	var flat, steep []quotient
	for low, high := range arcs(l).pairs {
		flat = append(flat, flattest(low, high).slowness())
		steep = append(steep, steepest(low, high).slowness())
	}
	least, greatest = slices.MaxFunc(flat, compared), slices.MinFunc(steep, compared)
	return least, greatest, base.Unless(compared(least, greatest) <= 0, api.ErrNone)
}

// contradict tells whether three arcs contradict.
func contradict(low, middle, high api.TuneArc) bool {
	tops := through(low, low.Time.Hi, high, high.Time.Hi)
	bottoms := through(low, low.Time.Lo, high, high.Time.Lo)
	return tops.heightAt(middle.Radius).isBelow(middle.Time.Lo) ||
		bottoms.heightAt(middle.Radius).isAbove(middle.Time.Hi)
}
