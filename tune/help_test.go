package tune_test

import (
	"fmt"
	"math/big"
	"math/rand/v2"
	"slices"
	"strconv"
	"testing"

	"couplant/api"
)

const (
	greatest = int(^uint(0) >> 1)
	smallest = -greatest - 1
)

// want compares a result and its error with those that are promised; an empty list is one that is nil.
func want[T any](t *testing.T, what string, got T, e api.Errno, right T, f api.Errno) {
	t.Helper()
	if shown(got) != shown(right) || e != f {
		t.Errorf("%s: %s, error %d; want %s, error %d", what, shown(got), e, shown(right), f)
	}
}

// shown is a result in letters, also if it is bytes that are none.
func shown(result any) string {
	if s, isText := result.(string); isText {
		return strconv.Quote(s)
	}
	return fmt.Sprint(result)
}

// dice are numbers that are the same in each run.
type dice struct{ *rand.Rand }

func newDice(seed uint64) dice { return dice{rand.New(rand.NewPCG(seed, 6))} }

// from rolls a number from least to most.
func (d dice) from(least, most int) int { return least + d.IntN(most-least+1) }

// rational is num / den.
func rational(num, den int) *big.Rat {
	return new(big.Rat).SetFrac(big.NewInt(int64(num)), big.NewInt(int64(den)))
}

// whole is a number as a rational one.
func whole(n int) *big.Rat { return rational(n, 1) }

func sum(a, b *big.Rat) *big.Rat        { return new(big.Rat).Add(a, b) }
func difference(a, b *big.Rat) *big.Rat { return new(big.Rat).Sub(a, b) }
func product(a, b *big.Rat) *big.Rat    { return new(big.Rat).Mul(a, b) }
func share(a, b *big.Rat) *big.Rat      { return new(big.Rat).Quo(a, b) }

// isWithin tells whether a number is from lo to hi.
func isWithin(x, lo, hi *big.Rat) bool { return x.Cmp(lo) >= 0 && x.Cmp(hi) <= 0 }

// down is a rational number, rounded down.
func down(x *big.Rat) int {
	// Div is rounded down, as Denom is above 0.
	return int(new(big.Int).Div(x.Num(), x.Denom()).Int64())
}

// enclosed is the enclosure of all numbers from lo to hi.
func enclosed(lo, hi *big.Rat) api.Range {
	return api.Range{Lo: down(lo), Hi: -down(new(big.Rat).Neg(hi))}
}

// between is the height at x of the line through two points.
func between(x0, y0, x1, y1, x int) *big.Rat {
	rise := share(whole(y1-y0), whole(x1-x0))
	return sum(whole(y0), product(rise, whole(x-x0)))
}

// ends is a range of two numbers.
func ends(lo, hi int) api.Range { return api.Range{Lo: lo, Hi: hi} }

// slope is the table of the chapter's first example, four that of the second one.
func slope() []api.TuneRow { return []api.TuneRow{{Depth: 1000, Echo: 800}, {Depth: 2000, Echo: 400}} }
func four() []api.TuneRow {
	return []api.TuneRow{{Depth: 0, Echo: 100}, {Depth: 10, Echo: 90}, {Depth: 20, Echo: 81}, {Depth: 30, Echo: 70}}
}

// rowsAt is a table with some depths, all of whose echoes are 1.
func rowsAt(depths ...int) []api.TuneRow {
	var l []api.TuneRow
	for _, depth := range depths {
		l = append(l, api.TuneRow{Depth: depth, Echo: 1})
	}
	return l
}

// rising is the numbers from 0 up to below a count.
func rising(count int) []int {
	var l []int
	for n := range count {
		l = append(l, n)
	}
	return l
}

// wrongTable is a table with the number and the error that CheckTable returns.
type wrongTable struct {
	l     []api.TuneRow
	n     int
	right api.Errno
}

func wrongTables() []wrongTable {
	return []wrongTable{
		{nil, 0, api.ErrShape}, {[]api.TuneRow{}, 0, api.ErrShape},
		{rowsAt(rising(21)...), 0, api.ErrLarge}, {make([]api.TuneRow, 21), 0, api.ErrLarge},
		{rowsAt(-1, 5), 0, api.ErrRange}, {rowsAt(1, 100001), 1, api.ErrRange}, {rowsAt(smallest), 0, api.ErrRange}, {rowsAt(greatest), 0, api.ErrRange},
		{[]api.TuneRow{{Depth: 1, Echo: 0}}, 0, api.ErrRange}, {[]api.TuneRow{{Depth: 1, Echo: -1}}, 0, api.ErrRange},
		{[]api.TuneRow{{Depth: 1, Echo: 1}, {Depth: 2, Echo: 1000001}}, 1, api.ErrRange},
		{[]api.TuneRow{{Depth: 1, Echo: smallest}}, 0, api.ErrRange}, {[]api.TuneRow{{Depth: 1, Echo: greatest}}, 0, api.ErrRange},
		{rowsAt(5, 5), 1, api.ErrOrder}, {rowsAt(1, 5, 4), 2, api.ErrOrder}, {rowsAt(1, 5, 1, 0), 2, api.ErrOrder},
		// Of one row the range comes first; of two the first one counts.
		{[]api.TuneRow{{Depth: 5, Echo: 1}, {Depth: 4, Echo: 0}}, 1, api.ErrRange}, {rowsAt(5, -1), 1, api.ErrRange}, {rowsAt(5, 5, -1), 1, api.ErrOrder},
	}
}

// wrongEchoes are out of their range.
func wrongEchoes() []int { return []int{0, -1, 1000001, smallest, greatest} }

// table rolls a table; some have echoes that lie on few lines.
func (d dice) table(most int) []api.TuneRow {
	size, gap := []int{2, 5, 100, 1000000}[d.IntN(4)], []int{1, 3, 100, 4000}[d.IntN(4)]
	var l []api.TuneRow
	depth := d.from(0, 9)
	for range d.from(1, most) {
		l = append(l, api.TuneRow{Depth: depth, Echo: d.from(1, size)})
		depth += d.from(1, gap)
	}
	return l
}

// rightEcho is the echo at a depth, or nil outside of the rows.
func rightEcho(l []api.TuneRow, depth int) *big.Rat {
	for n, x := range l {
		switch {
		case x.Depth == depth:
			return whole(x.Echo)
		case n > 0 && l[n-1].Depth < depth && depth < x.Depth:
			return between(l[n-1].Depth, l[n-1].Echo, x.Depth, x.Echo, depth)
		}
	}
	return nil
}

// isKept tells whether all rows lie within a slack of some of them.
func isKept(l []api.TuneRow, numbers []int, slack int) bool {
	var some []api.TuneRow
	for _, n := range numbers {
		some = append(some, l[n])
	}
	return !slices.ContainsFunc(l, func(x api.TuneRow) bool {
		off := difference(rightEcho(some, x.Depth), whole(x.Echo))
		return off.Abs(off).Cmp(whole(slack)) > 0
	})
}

// arc is an arc with a radius, and a time from lo to hi.
func arc(radius, lo, hi int) api.TuneArc { return api.TuneArc{Radius: radius, Time: ends(lo, hi)} }

// sharp is the arcs of the chapter's third example, apart those of the fourth one.
func sharp() []api.TuneArc {
	return []api.TuneArc{arc(2500, 20000000, 20000000), arc(5000, 35000000, 35000000)}
}
func apart() []api.TuneArc {
	return []api.TuneArc{arc(1000, 10, 12), arc(2000, 20, 22), arc(3000, 40, 42)}
}

// wrongArc is arcs with the number and the error that CheckArcs returns.
type wrongArc struct {
	l     []api.TuneArc
	n     int
	right api.Errno
}

func wrongArcs() []wrongArc {
	first := arc(5, 1, 2)
	return []wrongArc{
		{nil, 0, api.ErrShape}, {[]api.TuneArc{}, 0, api.ErrShape}, {[]api.TuneArc{first}, 0, api.ErrShape}, {[]api.TuneArc{{}}, 0, api.ErrShape},
		{make([]api.TuneArc, 13), 0, api.ErrLarge},
		{[]api.TuneArc{arc(0, 1, 2), first}, 0, api.ErrRange}, {[]api.TuneArc{first, arc(100001, 1, 2)}, 1, api.ErrRange},
		{[]api.TuneArc{arc(-1, 1, 2), first}, 0, api.ErrRange}, {[]api.TuneArc{first, arc(smallest, 1, 2)}, 1, api.ErrRange}, {[]api.TuneArc{first, arc(greatest, 1, 2)}, 1, api.ErrRange},
		{[]api.TuneArc{arc(5, -1, 2), arc(6, 1, 2)}, 0, api.ErrRange}, {[]api.TuneArc{first, arc(6, 1, 1000000000001)}, 1, api.ErrRange},
		{[]api.TuneArc{first, arc(6, 1000000000001, 1000000000001)}, 1, api.ErrRange}, {[]api.TuneArc{first, arc(6, -2, -1)}, 1, api.ErrRange},
		{[]api.TuneArc{first, arc(6, smallest, greatest)}, 1, api.ErrRange}, {[]api.TuneArc{first, arc(6, greatest, smallest)}, 1, api.ErrRange}, {[]api.TuneArc{first, arc(6, 0, -1)}, 1, api.ErrRange},
		{[]api.TuneArc{first, arc(6, 3, 2)}, 1, api.ErrOrder}, {[]api.TuneArc{arc(5, 3, 2), arc(0, 1, 2)}, 0, api.ErrOrder},
		{[]api.TuneArc{first, first}, 1, api.ErrOrder}, {[]api.TuneArc{first, arc(6, 1, 2), arc(4, 1, 2), arc(0, 1, 2)}, 2, api.ErrOrder},
		{[]api.TuneArc{first, arc(4, -1, 2)}, 1, api.ErrRange}, {[]api.TuneArc{first, arc(0, 2, 1)}, 1, api.ErrRange},
	}
}

// arcs rolls arcs near those of a delay and a slowness, which may also contradict.
func (d dice) arcs() []api.TuneArc {
	delay, rise := d.from(-200, 200), d.from(-6, 12)
	if d.from(0, 2) == 0 {
		delay, rise = d.from(0, 1000000), d.from(1, 3000)
	}
	off := []int{0, 2, 30, 2000}[d.IntN(4)]
	radius := 0
	var l []api.TuneArc
	for range d.from(2, 6) {
		radius += d.from(1, []int{3, 40}[d.IntN(2)])
		lo := max(0, delay+2*radius*rise-d.from(0, off))
		l = append(l, arc(radius, lo, max(lo, delay+2*radius*rise+d.from(-off/2, off))))
	}
	return l
}

// vertex is a slowness and a delay.
type vertex struct{ slowness, delay *big.Rat }

// doExplain tells whether a slowness and a delay explain arcs.
func (v vertex) doExplain(l []api.TuneArc) bool {
	return !slices.ContainsFunc(l, func(x api.TuneArc) bool {
		time := sum(v.delay, product(whole(2*x.Radius), v.slowness))
		return !isWithin(time, whole(x.Time.Lo), whole(x.Time.Hi))
	})
}

// vertices are the corners of all that explains arcs: an end of each of two arcs is met exactly.
func vertices(l []api.TuneArc) []vertex {
	var found []vertex
	for n, high := range l {
		for _, low := range l[:n] {
			for _, lowTime := range []int{low.Time.Lo, low.Time.Hi} {
				for _, highTime := range []int{high.Time.Lo, high.Time.Hi} {
					v := vertex{slowness: rational(highTime-lowTime, 2*(high.Radius-low.Radius))}
					v.delay = difference(whole(lowTime), product(whole(2*low.Radius), v.slowness))
					if v.doExplain(l) {
						found = append(found, v)
					}
				}
			}
		}
	}
	return found
}

// rightSpeeds and rightDelays are the ranges of arcs, from the corners of what explains them.
func rightSpeeds(l []api.TuneArc) (api.Range, api.Errno) {
	found := vertices(l)
	if len(found) == 0 {
		return api.Range{}, api.ErrNone
	}
	bySlowness := func(a, b vertex) int { return a.slowness.Cmp(b.slowness) }
	least, most := slices.MinFunc(found, bySlowness).slowness, slices.MaxFunc(found, bySlowness).slowness
	if least.Sign() <= 0 {
		return api.Range{}, api.ErrZero
	}
	return enclosed(share(whole(10000000), most), share(whole(10000000), least)), api.OK
}

func rightDelays(l []api.TuneArc) (api.Range, api.Errno) {
	found := vertices(l)
	if len(found) == 0 {
		return api.Range{}, api.ErrNone
	}
	byDelay := func(a, b vertex) int { return a.delay.Cmp(b.delay) }
	return enclosed(slices.MinFunc(found, byDelay).delay, slices.MaxFunc(found, byDelay).delay), api.OK
}

// doContradict tells whether three arcs contradict, as the chapter defines it.
func doContradict(low, middle, high api.TuneArc) bool {
	tops := between(low.Radius, low.Time.Hi, high.Radius, high.Time.Hi, middle.Radius)
	bottoms := between(low.Radius, low.Time.Lo, high.Radius, high.Time.Lo, middle.Radius)
	return tops.Cmp(whole(middle.Time.Lo)) < 0 || bottoms.Cmp(whole(middle.Time.Hi)) > 0
}
