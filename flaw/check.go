package flaw

import (
	"slices"

	"couplant/api"
	"couplant/base"
)

const (
	mostCells = 4096                 // of an area that a mark is made of
	mostCell  = 2 * api.MaxFlawPlace // numbers of such cells, in size
	mostEnd   = 10 * api.MaxPlace    // ends of marks, in size
)

// CheckScans accepts scans, or returns the number of a wrong one, and the error.
func CheckScans(l []api.FlawScan) (int, api.Errno) {
	if len(l) > api.MaxFlawScans {
		return 0, api.ErrLarge
	}
	return base.FirstIn(len(l), func(n int) api.Errno { return scanError(l[n]) })
}

// CheckGrid accepts a grid.
func CheckGrid(g api.FlawGrid) api.Errno {
	return base.FirstOf(
		base.RangeError(g.Along, 1, api.MaxFlawStep),
		base.RangeError(g.Down, 1, api.MaxFlawStep),
	)
}

// CheckMarks accepts marks, or returns the number of a wrong one, and the error.
func CheckMarks(l []api.FlawMark) (int, api.Errno) {
	if len(l) > api.MaxFlawMarks {
		return 0, api.ErrLarge
	}
	return base.FirstIn(len(l), func(n int) api.Errno {
		return base.FirstOf(markError(l[n]), base.ExistsError(l, n, nameOf))
	})
}

// CheckRule accepts a rule.
func CheckRule(r api.FlawRule) api.Errno {
	return base.FirstOf(
		base.RangeError(r.Along, 0, api.MaxPlace),
		base.RangeError(r.Down, 0, api.MaxPlace),
		base.FormError(r.Share),
		base.RangeError(r.Share.Den, 1, 100),
		base.RangeError(r.Share.Num, 0, 4*r.Share.Den),
	)
}

// scanError is the error of a scan.
func scanError(s api.FlawScan) api.Errno {
	e := base.FirstOf(
		base.RangeError(s.Row, -api.MaxFlawPlace, api.MaxFlawPlace),
		base.RangeError(s.Column, -api.MaxFlawPlace, api.MaxFlawPlace),
		base.RangeError(s.Rows, 1, api.MaxFlawRows),
		base.RangeError(s.Columns, 1, api.MaxFlawRows),
		base.Unless(len(s.Data) == s.Rows*s.Columns, api.ErrShape),
	)
	if e != api.OK {
		return e
	}
	_, e = base.FirstIn(len(s.Data), func(n int) api.Errno { return levelError(s.Data[n]) })
	return e
}

// scansError is the error of scans.
func scansError(l []api.FlawScan) api.Errno {
	_, e := CheckScans(l)
	return e
}

// levelError is the error of an amplitude, or of a level.
func levelError(level int) api.Errno { return base.RangeError(level, 0, api.MaxFlawLevel) }

// askError is the error of scans and an ask.
func askError(l []api.FlawScan, x api.FlawAsk) api.Errno {
	return base.FirstOf(scansError(l), levelError(x.Level))
}

// dropError is the error of scans, the direction of a drop, and its share.
func dropError(l []api.FlawScan, along int, share api.Frac) api.Errno {
	return base.FirstOf(
		scansError(l),
		base.Unless(along == 0 || along == 1, api.ErrKind),
		base.FormError(share),
		base.RangeError(share.Num, 1, share.Den),
		base.RangeError(share.Den, 1, 1000),
	)
}

// cellsError is the error of the cells of an area that a mark is to be made of.
func cellsError(cells [][2]int) api.Errno {
	if e := base.LengthError(len(cells), mostCells); e != api.OK {
		return e
	}
	_, e := base.FirstIn(len(cells), func(n int) api.Errno {
		return base.FirstOf(
			base.RangeError(cells[n][0], -mostCell, mostCell),
			base.RangeError(cells[n][1], -mostCell, mostCell),
			base.Unless(n == 0 || inOrder(cells[n-1], cells[n]) < 0, api.ErrOrder),
		)
	})
	return e
}

// tipError is the error of a tip.
func tipError(x api.FlawTip) api.Errno {
	return base.FirstOf(
		base.EndsError(x.Time, 0, api.MaxTime),
		base.EndsError(x.Offset, 0, api.MaxPlace),
		base.SpeedError(x.Speed),
	)
}

// markError is the error of a mark.
func markError(m api.FlawMark) api.Errno {
	ends := []int{m.Along.Lo, m.Along.Hi, m.Depth.Lo, m.Depth.Hi}
	isOut := func(end int) bool { return !base.Within(end, -mostEnd, mostEnd) }
	return base.FirstOf(
		base.NameError(m.Name),
		base.Unless(!slices.ContainsFunc(ends, isOut), api.ErrRange),
		base.Unless(m.Along.Lo <= m.Along.Hi && m.Depth.Lo <= m.Depth.Hi, api.ErrOrder),
		levelError(m.Level),
	)
}

// marksError is the error of marks.
func marksError(l []api.FlawMark) api.Errno {
	_, e := CheckMarks(l)
	return e
}

// slackError is the error of a slack.
func slackError(slack int) api.Errno { return base.RangeError(slack, 0, api.MaxPlace) }

// listsError is the error of two lists of marks and a slack.
func listsError(a, b []api.FlawMark, slack int) api.Errno {
	return base.FirstOf(marksError(a), marksError(b), slackError(slack))
}

// nameOf is the name of a mark.
func nameOf(m api.FlawMark) string { return m.Name }
