package code_test

import (
	"fmt"
	"iter"
	"math/rand/v2"
	"slices"
	"strconv"
	"testing"

	"couplant/api"
)

const (
	greatest = int(^uint(0) >> 1)
	smallest = -greatest - 1

	kind, thick, depth     = api.CodeKind, api.CodeThick, api.CodeDepth
	height, length, level  = api.CodeHeight, api.CodeLength, api.CodeLevel
	accept, reject, repeat = api.DecisionAccept, api.DecisionReject, api.DecisionRepeat
)

// want compares a result and its error with those that are promised; an empty list is one that is nil.
func want[T any](t *testing.T, what string, got T, e api.Errno, right T, f api.Errno) {
	t.Helper()
	if shown(got) != shown(right) || e != f {
		t.Errorf("%s: %s, error %d; want %s, error %d", what, shown(got), e, shown(right), f)
	}
}

// shown is a result in letters, also if it is bytes that are none.
func shown(result any) string {
	if s, isText := result.(string); isText {
		return strconv.Quote(s)
	}
	return fmt.Sprint(result)
}

// dice are numbers that are the same in each run.
type dice struct{ *rand.Rand }

func newDice(seed uint64) dice { return dice{rand.New(rand.NewPCG(seed, 9))} }

// from rolls a number from least to most.
func (d dice) from(least, most int) int { return least + d.IntN(most-least+1) }

// one rolls one of some numbers.
func (d dice) one(numbers ...int) int { return numbers[d.IntN(len(numbers))] }

// most is the greatest mark.
func most() api.CodeMark { return api.CodeMark{9, 20000, 20000, 20000, 100000, 200} }

// limit is the range of a quantity.
type limit struct{ quantity, lo, hi int }

// box is the box with limits, whole is the one without, and row is a row with them.
func box(limits ...limit) api.CodeBox {
	b := whole()
	for _, l := range limits {
		b[l.quantity] = ends(l.lo, l.hi)
	}
	return b
}

func whole() api.CodeBox {
	var b api.CodeBox
	for quantity, n := range most() {
		b[quantity] = ends(0, n)
	}
	return b
}

func row(decision int, limits ...limit) api.CodeRow {
	return api.CodeRow{Box: box(limits...), Decision: decision}
}

// ends is a range of two numbers.
func ends(lo, hi int) api.Range { return api.Range{Lo: lo, Hi: hi} }

// strict is the code of the chapter's examples, and bare is a code without exceptions.
func strict() api.Code {
	return api.Code{
		Name:   "s",
		Except: []api.CodeRow{row(reject, limit{kind, 1, 1}, limit{level, 50, 200})},
		Rows:   []api.CodeRow{row(accept, limit{height, 0, 200}), row(reject, limit{height, 201, 20000})},
	}
}

func bare(rows ...api.CodeRow) api.Code { return api.Code{Name: "b", Rows: rows} }

// excepted is a code with exceptions, and a row that accepts all.
func excepted(except ...api.CodeRow) api.Code {
	return api.Code{Name: "x", Except: except, Rows: []api.CodeRow{row(accept)}}
}

// wrongBox is a box with its error, wrongRow a row with its one.
type wrongBox struct {
	b     api.CodeBox
	right api.Errno
}

type wrongRow struct {
	r     api.CodeRow
	right api.Errno
}

func wrongMarks() []api.CodeMark {
	var l []api.CodeMark
	for quantity, n := range most() {
		for _, wrong := range []int{smallest, -1, n + 1, greatest} {
			m := most()
			m[quantity] = wrong
			l = append(l, m)
		}
	}
	return append(l, api.CodeMark{-1, -1, -1, -1, -1, -1})
}

func wrongBoxes() []wrongBox {
	var l []wrongBox
	add := func(right api.Errno, limits ...limit) { l = append(l, wrongBox{box(limits...), right}) }
	for quantity, n := range most() {
		for _, wrong := range []int{smallest, -1, n + 1, greatest} {
			add(api.ErrRange, limit{quantity, wrong, n})
			add(api.ErrRange, limit{quantity, 0, wrong})
			add(api.ErrRange, limit{quantity, wrong, wrong})
			add(api.ErrRange, limit{quantity, wrong, 5})
		}
		add(api.ErrOrder, limit{quantity, 1, 0})
		add(api.ErrOrder, limit{quantity, n, n - 1})
		// The errors of one quantity come ahead of those of the next one.
		if quantity > 0 {
			add(api.ErrOrder, limit{quantity - 1, 5, 4}, limit{quantity, -1, n})
			add(api.ErrRange, limit{quantity - 1, 5, -1}, limit{quantity, 5, 4})
		}
	}
	return l
}

func wrongRows() []wrongRow {
	var l []wrongRow
	for _, x := range wrongBoxes() {
		l = append(l, wrongRow{api.CodeRow{Box: x.b}, x.right}, wrongRow{api.CodeRow{Box: x.b, Decision: 3}, x.right})
	}
	for _, n := range []int{smallest, -1, 3, greatest} {
		l = append(l, wrongRow{row(n), api.ErrKind})
	}
	return l
}

// wrongCode is a code with the number and the error that CheckCode returns.
type wrongCode struct {
	c     api.Code
	n     int
	right api.Errno
}

func wrongCodes() []wrongCode {
	var l []wrongCode
	add := func(n int, right api.Errno, change func(c *api.Code)) {
		c := strict()
		change(&c)
		l = append(l, wrongCode{c, n, right})
	}
	for _, name := range []string{"", "5a", "a b", "abcdefghijklm", "ä", "-a", "s\n"} {
		add(0, api.ErrName, func(c *api.Code) { c.Name = name })
		add(0, api.ErrName, func(c *api.Code) { c.Name, c.Rows = name, make([]api.CodeRow, 11) })
	}
	wrong := row(3)
	many := slices.Repeat([]api.CodeRow{wrong}, 11)
	add(0, api.ErrLarge, func(c *api.Code) { c.Except = many })
	add(0, api.ErrLarge, func(c *api.Code) { c.Rows = many })
	add(0, api.ErrLarge, func(c *api.Code) { c.Except, c.Rows = many[:1], many })
	add(0, api.ErrLarge, func(c *api.Code) { c.Except, c.Rows = many, many })
	add(0, api.ErrLarge, func(c *api.Code) { c.Rows = slices.Repeat([]api.CodeRow{row(accept)}, 11) })
	add(0, api.ErrLarge, func(c *api.Code) { c.Except = slices.Repeat([]api.CodeRow{row(accept)}, 1000) })
	for _, x := range wrongRows() {
		add(0, x.right, func(c *api.Code) { c.Except[0] = x.r })
		add(1, x.right, func(c *api.Code) { c.Rows = []api.CodeRow{x.r, wrong} })
		add(2, x.right, func(c *api.Code) { c.Rows[1] = x.r })
		add(0, x.right, func(c *api.Code) { c.Except, c.Rows = nil, []api.CodeRow{x.r} })
		add(1, x.right, func(c *api.Code) { c.Except, c.Rows = append(c.Except, x.r), many[:10] })
	}
	add(19, api.ErrKind, func(c *api.Code) {
		c.Except = slices.Repeat(c.Except, 10)
		c.Rows = append(slices.Repeat(c.Rows[:1], 9), wrong)
	})
	return l
}

// wrongCodesOnce is some wrong codes, one for each error.
func wrongCodesOnce() []wrongCode {
	seen := map[api.Errno]bool{}
	return slices.DeleteFunc(wrongCodes(), func(x wrongCode) bool {
		wasSeen := seen[x.right]
		seen[x.right] = true
		return wasSeen
	})
}

// deciding is the number of the exception or row that decides a mark, and the decision, or -1 for both, as the chapter defines it.
func deciding(c api.Code, m api.CodeMark) (int, int) {
	for n, r := range slices.Concat(c.Except, c.Rows) {
		isIn := true
		for quantity, number := range m {
			isIn = isIn && r.Box[quantity].Lo <= number && number <= r.Box[quantity].Hi
		}
		if isIn {
			return n, r.Decision
		}
	}
	return -1, -1
}

func isAccepted(c api.Code, m api.CodeMark) bool {
	_, decision := deciding(c, m)
	return decision == accept
}

func differAt(a, b api.Code, m api.CodeMark) bool {
	_, first := deciding(a, m)
	_, second := deciding(b, m)
	return first != second
}

// world is the numbers, ascending, of each quantity at which ranges begin: codes, boxes and marks are made from these.
type world [api.CodeQuantity][]int

// world rolls a world with so many numbers of each quantity at the most.
func (d dice) world(count int) world {
	var w world
	for quantity, n := range most() {
		w[quantity] = []int{0}
		for range d.from(0, count-1) {
			w[quantity] = append(w[quantity], d.one(d.from(1, n), d.from(1, min(n, 5)), n))
		}
		slices.Sort(w[quantity])
		w[quantity] = slices.Compact(w[quantity])
	}
	return w
}

// limits rolls a box: each range begins at a number of the world, and ends ahead of another one, or at the greatest number.
func (d dice) limits(w world, oneIn int) api.CodeBox {
	b := whole()
	for quantity, numbers := range w {
		if d.from(1, oneIn) > 1 {
			continue
		}
		from := d.IntN(len(numbers))
		to := d.from(from+1, len(numbers))
		b[quantity].Lo = numbers[from]
		if to < len(numbers) {
			b[quantity].Hi = numbers[to] - 1
		}
	}
	return b
}

// rows rolls rows, up to a number of them.
func (d dice) rows(w world, most int) []api.CodeRow {
	oneIn := d.from(1, 4)
	var l []api.CodeRow
	for range d.from(0, most) {
		l = append(l, api.CodeRow{Box: d.limits(w, oneIn), Decision: d.from(0, 2)})
	}
	return l
}

// code rolls a code.
func (d dice) code(w world, most int) api.Code {
	return api.Code{Name: "d", Except: d.rows(w, most), Rows: d.rows(w, most)}
}

// numbers is the numbers of a quantity at which ranges of a world begin or end, within a range, ascending.
func (w world) numbers(quantity int, within api.Range) []int {
	l := []int{within.Lo, within.Hi}
	for _, n := range w[quantity] {
		for _, m := range []int{n - 1, n} {
			if within.Lo < m && m < within.Hi {
				l = append(l, m)
			}
		}
	}
	slices.Sort(l)
	return slices.Compact(l)
}

// marks yields the marks of a box whose numbers are numbers of a world, in their order.
func (w world) marks(b api.CodeBox) iter.Seq[api.CodeMark] {
	return func(yield func(m api.CodeMark) bool) {
		var m api.CodeMark
		var choose func(quantity int) bool
		choose = func(quantity int) bool {
			if quantity == len(m) {
				return yield(m)
			}
			for _, n := range w.numbers(quantity, b[quantity]) {
				m[quantity] = n
				if !choose(quantity + 1) {
					return false
				}
			}
			return true
		}
		choose(0)
	}
}

// first is the first mark of a box for which a condition holds, or the error ErrNone.
func (w world) first(b api.CodeBox, holds func(m api.CodeMark) bool) (api.CodeMark, api.Errno) {
	for m := range w.marks(b) {
		if holds(m) {
			return m, api.OK
		}
	}
	return api.CodeMark{}, api.ErrNone
}

// answerOf is the answer if a condition holds for marks of a box, or not, and fails for some, or not.
func answerOf(holds, fails api.Errno) int {
	switch {
	case fails != api.OK:
		return api.AnswerYes
	case holds != api.OK:
		return api.AnswerNo
	}
	return api.AnswerMaybe
}

// mark rolls a mark of a box.
func (d dice) mark(b api.CodeBox) api.CodeMark {
	var m api.CodeMark
	for quantity, r := range b {
		m[quantity] = d.one(r.Lo, r.Hi, d.from(r.Lo, r.Hi))
	}
	return m
}

// large rolls a code with as many exceptions and rows as possible; wide ones leave little away of each quantity.
func (d dice) large(wide bool) api.Code {
	c := api.Code{Name: "large"}
	for range 10 {
		c.Except, c.Rows = append(c.Except, d.largeRow(wide)), append(c.Rows, d.largeRow(wide))
	}
	return c
}

func (d dice) largeRow(wide bool) api.CodeRow {
	r := row(d.from(0, 2))
	for quantity, n := range most() {
		lo, hi := d.from(0, n), d.from(0, n)
		if wide {
			lo, hi = d.from(0, n/8), d.from(n-n/8, n)
		}
		r.Box[quantity] = ends(min(lo, hi), max(lo, hi))
	}
	return r
}

// rising compares two marks.
func rising(a, b api.CodeMark) int { return slices.Compare(a[:], b[:]) }
