package flaw_test

import (
	"fmt"
	"maps"
	"math/big"
	"math/rand/v2"
	"slices"
	"strconv"
	"testing"

	"couplant/api"
)

const (
	greatest = int(^uint(0) >> 1)
	smallest = -greatest - 1
)

// want compares a result and its error with those that are promised; an empty list is one that is nil.
func want[T any](t *testing.T, what string, got T, e api.Errno, right T, f api.Errno) {
	t.Helper()
	if shown(got) != shown(right) || e != f {
		t.Errorf("%s: %s, error %d; want %s, error %d", what, shown(got), e, shown(right), f)
	}
}

// shown is a result in letters, also if it is bytes that are none.
func shown(result any) string {
	if s, isText := result.(string); isText {
		return strconv.Quote(s)
	}
	return fmt.Sprint(result)
}

// dice are numbers that are the same in each run.
type dice struct{ *rand.Rand }

func newDice(seed uint64) dice { return dice{rand.New(rand.NewPCG(seed, 8))} }

// from rolls a number from least to most.
func (d dice) from(least, most int) int { return least + d.IntN(most-least+1) }

// one rolls one of some numbers.
func (d dice) one(numbers ...int) int { return numbers[d.IntN(len(numbers))] }

// ends is a range of two numbers, frac a fraction as it stands.
func ends(lo, hi int) api.Range    { return api.Range{Lo: lo, Hi: hi} }
func frac(num, den int) api.Frac   { return api.Frac{Num: num, Den: den} }
func whole(n int) *big.Int         { return big.NewInt(int64(n)) }
func product(a, b int) *big.Int    { return new(big.Int).Mul(whole(a), whole(b)) }
func square(n int) *big.Int        { return product(n, n) }
func less(a, b *big.Int) *big.Int  { return new(big.Int).Sub(a, b) }
func sum(a, b *big.Int) *big.Int   { return new(big.Int).Add(a, b) }
func scanAt(row, column int) scan  { return scan{Row: row, Column: column} }
func wrongNumbers(l ...int) []int  { return append(l, smallest, greatest) }
func isIn(n int, r api.Range) bool { return r.Lo <= n && n <= r.Hi }

// scan is a scan that gets its rows one by one.
type scan api.FlawScan

// of is the scan with rows, which have as many columns each.
func (s scan) of(rows ...[]int) api.FlawScan {
	s.Rows, s.Columns, s.Data = len(rows), len(rows[0]), slices.Concat(rows...)
	return api.FlawScan(s)
}

// six is the scans of the chapter's first example, nine the ones with one more cell, and column those of the third one.
func six() []api.FlawScan { return []api.FlawScan{scanAt(0, 0).of([]int{5, 0, 7}, []int{0, 6, 0})} }

func nine() []api.FlawScan { return append(six(), scanAt(0, 1).of([]int{9})) }

func column() []api.FlawScan {
	return []api.FlawScan{scanAt(0, 0).of([]int{1}, []int{4}, []int{8}, []int{5}, []int{2})}
}

// area is an area with some cells, the first one with the greatest amplitude, and this.
func area(level int, peak [2]int, cells ...[2]int) api.FlawArea {
	return api.FlawArea{Cells: cells, Peak: peak, Level: level}
}

// wrongScan is scans with the number and the error that CheckScans returns.
type wrongScan struct {
	l     []api.FlawScan
	n     int
	right api.Errno
}

func wrongScans() []wrongScan {
	l := []wrongScan{{make([]api.FlawScan, 7), 0, api.ErrLarge}, {slices.Repeat(six(), 7), 0, api.ErrLarge}}
	add := func(right api.Errno, change func(s *api.FlawScan)) {
		s := six()[0]
		change(&s)
		l = append(l, wrongScan{[]api.FlawScan{s}, 0, right}, wrongScan{append(nine(), s, api.FlawScan{}), 2, right})
	}
	add(api.ErrRange, func(s *api.FlawScan) { *s = api.FlawScan{} })
	for _, n := range wrongNumbers(-100001, 100001) {
		add(api.ErrRange, func(s *api.FlawScan) { s.Row, s.Data = n, nil })
		add(api.ErrRange, func(s *api.FlawScan) { s.Column, s.Data = n, nil })
	}
	for _, n := range wrongNumbers(-2, 0, 25, 1<<32) {
		add(api.ErrRange, func(s *api.FlawScan) { s.Rows = n })
		add(api.ErrRange, func(s *api.FlawScan) { s.Columns = n })
		add(api.ErrRange, func(s *api.FlawScan) { s.Rows, s.Columns = n, n })
	}
	add(api.ErrRange, func(s *api.FlawScan) { s.Rows, s.Columns = -2, -3 })
	add(api.ErrRange, func(s *api.FlawScan) { s.Rows, s.Columns, s.Data = 0, 24, nil })
	add(api.ErrRange, func(s *api.FlawScan) { s.Rows, s.Columns, s.Data = 25, 1, make([]int, 25) })
	add(api.ErrRange, func(s *api.FlawScan) { s.Rows, s.Columns, s.Data = 1, 25, make([]int, 25) })
	for _, count := range []int{0, 1, 5, 7, 12} {
		add(api.ErrShape, func(s *api.FlawScan) { s.Data = slices.Repeat([]int{-1}, count) })
	}
	for _, n := range wrongNumbers(-1, 1000000001) {
		for at := range 6 {
			add(api.ErrRange, func(s *api.FlawScan) { s.Data[at] = n })
		}
	}
	return l
}

// wrongLevels are levels of no ask, and of no mark.
func wrongLevels() []int { return wrongNumbers(-1, 1000000001) }

// rightAmplitude is the amplitude of a cell, as the chapter defines it, and whether it is known.
func rightAmplitude(l []api.FlawScan, cell [2]int) (int, bool) {
	amplitude, isKnown := 0, false
	for _, s := range l {
		row, column := cell[0]-s.Row, cell[1]-s.Column
		if 0 <= row && row < s.Rows && 0 <= column && column < s.Columns {
			amplitude, isKnown = max(amplitude, s.Data[row*s.Columns+column]), true
		}
	}
	return amplitude, isKnown
}

// cellsOf is the cells that scans have, in their order.
func cellsOf(l []api.FlawScan) [][2]int {
	all := map[[2]int]bool{}
	for _, s := range l {
		for n := range s.Data {
			all[[2]int{s.Row + n/s.Columns, s.Column + n%s.Columns}] = true
		}
	}
	return slices.SortedFunc(maps.Keys(all), rising)
}

// rising compares two cells.
func rising(a, b [2]int) int { return slices.Compare(a[:], b[:]) }

// areNeighbours tells whether two cells are neighbours.
func areNeighbours(a, b [2]int, corners bool) bool {
	row, column := max(a[0]-b[0], b[0]-a[0]), max(a[1]-b[1], b[1]-a[1])
	return row+column == 1 || corners && row == 1 && column == 1
}

// rightAreas is all areas of an ask: each cell takes the least label of its neighbours, until no label changes.
func rightAreas(l []api.FlawScan, x api.FlawAsk) []api.FlawArea {
	var cells [][2]int
	for _, cell := range cellsOf(l) {
		if amplitude, _ := rightAmplitude(l, cell); amplitude >= x.Level {
			cells = append(cells, cell)
		}
	}
	labels := make([]int, len(cells))
	for n := range labels {
		labels[n] = n
	}
	for changed := true; changed; {
		changed = false
		for n, a := range cells {
			for m, b := range cells {
				if labels[m] < labels[n] && areNeighbours(a, b, x.Corners) {
					labels[n], changed = labels[m], true
				}
			}
		}
	}
	var areas []api.FlawArea
	for label := range cells {
		a := api.FlawArea{Level: -1}
		for n, cell := range cells {
			if labels[n] != label {
				continue
			}
			a.Cells = append(a.Cells, cell)
			if amplitude, _ := rightAmplitude(l, cell); amplitude > a.Level {
				a.Peak, a.Level = cell, amplitude
			}
		}
		if len(a.Cells) > 0 {
			areas = append(areas, a)
		}
	}
	return areas
}

// scans rolls up to six scans that lie near each other, with amplitudes up to a greatest one.
func (d dice) scans(most int) []api.FlawScan {
	var l []api.FlawScan
	row, column := d.one(-100000, -3, 0, 99990), d.one(-100000, -3, 0, 99990)
	for range d.from(0, 6) {
		s := api.FlawScan{Row: row + d.from(0, 9), Column: column + d.from(0, 9), Rows: d.from(1, 7), Columns: d.from(1, 7)}
		for range s.Rows * s.Columns {
			s.Data = append(s.Data, d.from(0, most))
		}
		l = append(l, s)
	}
	return l
}

// mark is a mark with a name, both ends along, and both in depth.
func mark(name string, lo, hi, top, bottom int) api.FlawMark {
	return api.FlawMark{Name: name, Along: ends(lo, hi), Depth: ends(top, bottom)}
}

// row is a mark in the depth 0 to 10 for each two numbers, with names of one letter.
func row(l ...int) []api.FlawMark {
	var marks []api.FlawMark
	for n := 0; n < len(l); n += 2 {
		marks = append(marks, mark(letter(n/2), l[n], l[n+1], 0, 10))
	}
	return marks
}

// letter is the name of a number up to 25.
func letter(n int) string { return "abcdefghijklmnopqrstuvwxyz"[n : n+1] }

// three is the marks of the chapter's fifth example, and pair and other both lists of the sixth one.
func three() []api.FlawMark { return row(0, 100, 150, 200, 260, 300) }
func pair() []api.FlawMark  { return row(0, 10, 20, 30) }
func other() []api.FlawMark { return row(12, 18) }

// wrongMark is a mark with its error.
type wrongMark struct {
	m     api.FlawMark
	right api.Errno
}

func wrongMarks() []wrongMark {
	var l []wrongMark
	add := func(right api.Errno, change func(m *api.FlawMark)) {
		m := api.FlawMark{Name: "m", Along: ends(-5, 100), Depth: ends(3, 10), Level: 7}
		change(&m)
		l = append(l, wrongMark{m, right})
	}
	for _, name := range []string{"", "5a", "a b", "abcdefghijklm", "ä", "-a", "a\n"} {
		add(api.ErrName, func(m *api.FlawMark) { m.Name, m.Along.Lo, m.Level = name, greatest, -1 })
	}
	for _, n := range wrongNumbers(-1000001, 1000001) {
		add(api.ErrRange, func(m *api.FlawMark) { m.Along.Lo, m.Level = n, -1 })
		add(api.ErrRange, func(m *api.FlawMark) { m.Along.Hi = n })
		add(api.ErrRange, func(m *api.FlawMark) { m.Depth.Lo = n })
		add(api.ErrRange, func(m *api.FlawMark) { m.Depth.Hi = n })
		// The ends of both ranges come ahead of the order of one.
		add(api.ErrRange, func(m *api.FlawMark) { m.Along, m.Depth.Lo = ends(1, 0), n })
		add(api.ErrRange, func(m *api.FlawMark) { m.Along, m.Depth.Hi = ends(1, 0), n })
	}
	add(api.ErrOrder, func(m *api.FlawMark) { m.Along = ends(101, 100) })
	add(api.ErrOrder, func(m *api.FlawMark) { m.Depth = ends(1000000, -1000000) })
	add(api.ErrOrder, func(m *api.FlawMark) { m.Depth, m.Level = ends(1, 0), -1 })
	for _, n := range wrongLevels() {
		add(api.ErrRange, func(m *api.FlawMark) { m.Level = n })
	}
	return l
}

// wrongList is marks with the number and the error that CheckMarks returns.
type wrongList struct {
	l     []api.FlawMark
	n     int
	right api.Errno
}

func wrongLists() []wrongList {
	l := []wrongList{
		{make([]api.FlawMark, 21), 0, api.ErrLarge}, {row(make([]int, 42)...), 0, api.ErrLarge},
		{[]api.FlawMark{mark("a", 0, 1, 0, 1), mark("a", 5, 6, 0, 1)}, 1, api.ErrExists},
		{append(three(), mark("b", 0, 0, 0, 0), api.FlawMark{}), 3, api.ErrExists},
		{append(three(), api.FlawMark{}, mark("b", 0, 0, 0, 0)), 3, api.ErrName},
		{append(three(), mark("b", 2, 1, 0, 0)), 3, api.ErrOrder},
	}
	for _, x := range wrongMarks() {
		l = append(l, wrongList{[]api.FlawMark{x.m}, 0, x.right}, wrongList{append(three(), x.m, api.FlawMark{}), 3, x.right})
	}
	return l
}

// wrongRule is a rule with its error.
type wrongRule struct {
	r     api.FlawRule
	right api.Errno
}

func wrongRules() []wrongRule {
	var l []wrongRule
	add := func(right api.Errno, along, down int, share api.Frac) {
		l = append(l, wrongRule{api.FlawRule{Along: along, Down: down, Share: share}, right})
	}
	for _, n := range wrongNumbers(-1, 100001) {
		add(api.ErrRange, n, 5, api.Frac{})
		add(api.ErrRange, 5, n, api.Frac{})
	}
	for _, f := range wrongForms() {
		add(api.ErrForm, 5, 5, f)
	}
	for _, f := range []api.Frac{frac(-1, 1), frac(5, 1), frac(401, 100), frac(-1, 100), frac(1, 101), frac(403, 101), frac(smallest, 1), frac(greatest, 1), frac(1, greatest), frac(greatest-1, greatest)} {
		add(api.ErrRange, 5, 5, f)
	}
	return l
}

// wrongForms are fractions that are not in lowest terms, or have no Den above 0.
func wrongForms() []api.Frac {
	return []api.Frac{{}, frac(1, 0), frac(0, 2), frac(0, 101), frac(2, 4), frac(1, -1), frac(-1, -2), frac(6, 3), frac(0, smallest), frac(smallest, smallest), frac(greatest, greatest), frac(smallest, 2)}
}

// wrongSlacks are slacks of nothing.
func wrongSlacks() []int { return wrongNumbers(-1, 100001) }

// marks rolls marks that are near each other, with the names of their numbers.
func (d dice) marks(most int) []api.FlawMark {
	var l []api.FlawMark
	size := d.one(5, 30, 200)
	for n := range d.from(0, most) {
		lo, top := d.from(-size, size), d.from(-size/3, size/3)
		l = append(l, mark(letter(n), lo, lo+d.from(0, 12), top, top+d.from(0, 12)))
		l[n].Level = d.from(0, 9)
	}
	return l
}

// rule rolls a rule.
func (d dice) rule() api.FlawRule {
	shares := []api.Frac{frac(0, 1), frac(1, 4), frac(1, 1), frac(33, 100), frac(4, 1), frac(399, 100)}
	return api.FlawRule{Along: d.one(0, 1, 5, 20), Down: d.one(0, 1, 5, 20), Share: shares[d.IntN(len(shares))]}
}
