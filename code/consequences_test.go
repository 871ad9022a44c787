package code_test

import (
	"slices"
	"testing"

	"couplant/api"
	"couplant/code"
)

// shuffled is a list in another order.
func shuffled[T any](d dice, l []T) []T {
	m := slices.Clone(l)
	d.Shuffle(len(m), func(n, k int) { m[n], m[k] = m[k], m[n] })
	return m
}

// some rolls a code: a small one, or one with as many exceptions and rows as possible.
func (d dice) some() api.Code {
	switch d.from(0, 29) {
	case 0:
		return d.large(true)
	case 1:
		return d.large(false)
	}
	return d.code(d.world(4), 10)
}

// peaceful is a code without the exceptions and rows that clash with those ahead of them.
func peaceful(c api.Code) api.Code {
	p := api.Code{Name: "p"}
	for _, r := range c.Except {
		if _, _, e := code.FirstClash(bare(append(p.Except, r)...)); e == api.ErrNone {
			p.Except = append(p.Except, r)
		}
	}
	for _, r := range c.Rows {
		if _, _, e := code.FirstClash(bare(append(p.Rows, r)...)); e == api.ErrNone {
			p.Rows = append(p.Rows, r)
		}
	}
	return p
}

// marksAround rolls marks of a code: at ends of its ranges, beside these, and anywhere.
func (d dice) marksAround(c api.Code, count int) []api.CodeMark {
	w := worldOf(c)
	var l []api.CodeMark
	for range count {
		m := d.mark(whole())
		for quantity := range m {
			if d.from(0, 2) > 0 {
				numbers := w.numbers(quantity, whole()[quantity])
				m[quantity] = numbers[d.IntN(len(numbers))]
			}
		}
		l = append(l, m)
	}
	return l
}

// TestP9_7 completes codes: each mark is decided then, by one row, and as before if it was.
func TestP9_7(t *testing.T) {
	d := newDice(10)
	completed := 0
	for range 1000 {
		c := d.some()
		gap, e := code.FirstGap(c)
		decision := d.from(0, 2)
		c.Rows = c.Rows[:min(len(c.Rows), 9)]
		if e == api.OK {
			want(t, "whether a gap is open", 0, decideError(c, gap), 0, api.ErrNone)
		}
		whole, f := code.Completed(c, decision)
		if f == api.ErrNone {
			whole = c
		} else {
			completed++
		}
		_, e = code.FirstGap(whole)
		want(t, "the gap of a code that is completed", 0, e, 0, api.ErrNone)
		for _, m := range d.marksAround(c, 100) {
			r, e := decided(whole, m)
			before, wasOpen := decided(c, m)
			if wasOpen == api.ErrNone {
				before = ruling{len(c.Except) + len(c.Rows), decision}
			}
			want(t, "Decide of "+shown(m), r, e, before, api.OK)
		}
	}
	want(t, "whether some were completed", completed > 100, api.OK, true, api.OK)
}

func decideError(c api.Code, m api.CodeMark) api.Errno {
	_, _, e := code.Decide(c, m)
	return e
}

// TestP9_8 asks for boxes, boxes within them, and their marks.
func TestP9_8(t *testing.T) {
	d := newDice(11)
	same := 0
	for range 2000 {
		c := d.some()
		w := worldOf(c)
		outer := whole()
		for quantity := range outer {
			numbers := w.numbers(quantity, outer[quantity])
			n := d.IntN(len(numbers))
			outer[quantity] = ends(numbers[n], numbers[d.from(n, min(n+2, len(numbers)-1))])
		}
		a, e := answer(c, outer)
		want(t, "the error of Answer", 0, e, 0, api.OK)
		inner := outer
		for quantity, r := range outer {
			inner[quantity].Lo = d.from(r.Lo, r.Hi)
			inner[quantity].Hi = d.from(inner[quantity].Lo, r.Hi)
		}
		for range 20 {
			m := d.mark(outer)
			if n := isAccepted(c, m); n && a.answer == api.AnswerNo || !n && a.answer == api.AnswerYes {
				t.Fatalf("the mark %v in %v with the answer %d of %v", m, outer, a.answer, c)
			}
			if isAccepted(c, m) && rising(m, a.accepted) < 0 || !isAccepted(c, m) && rising(m, a.other) < 0 {
				t.Fatalf("the mark %v in %v is less than one of %v", m, outer, a)
			}
		}
		if a.answer != api.AnswerMaybe {
			b, e := answer(c, inner)
			want(t, "the answer of a box within", b.answer, e, a.answer, api.OK)
			same++
		}
	}
	want(t, "whether some answers were sure", same > 100, api.OK, true, api.OK)
}

// TestP9_9 tells exceptions and rows in another order, if they do not clash, and leaves idle ones away.
func TestP9_9(t *testing.T) {
	d := newDice(12)
	mixed, lazy := 0, 0
	for range 600 {
		c := d.some()
		p := peaceful(c)
		_, e := code.Differs(p, api.Code{Name: "o", Except: shuffled(d, p.Except), Rows: shuffled(d, p.Rows)})
		want(t, "Differs of the code in another order", 0, e, 0, api.ErrNone)
		if a, _ := answer(p, whole()); len(p.Except) > 1 && len(p.Rows) > 1 && a.answer == api.AnswerMaybe {
			mixed++
		}
		idle, e := code.Idle(c)
		want(t, "the error of Idle", 0, e, 0, api.OK)
		other := api.Code{Name: "o"}
		for n, r := range slices.Concat(c.Except, c.Rows) {
			switch {
			case slices.Contains(idle, n):
				lazy++
			case n < len(c.Except):
				other.Except = append(other.Except, r)
			default:
				other.Rows = append(other.Rows, r)
			}
		}
		_, e = code.Differs(c, other)
		want(t, "Differs of the code without idle rows", 0, e, 0, api.ErrNone)
		rest, e := code.Idle(other)
		want(t, "Idle of the code without idle rows", rest, e, nil, api.OK)
	}
	want(t, "whether some codes had rows to mix, and some had idle ones", mixed > 100 && lazy > 100, api.OK, true, api.OK)
}

// TestP9_10 compares codes with themselves, and amends them.
func TestP9_10(t *testing.T) {
	d := newDice(13)
	for range 250 {
		c := d.some()
		_, e := code.Differs(c, c)
		want(t, "Differs of a code and itself", 0, e, 0, api.ErrNone)
		n, e := code.Changed(c, c, whole())
		want(t, "Changed of a code and itself", n, e, api.AnswerNo, api.OK)
		c.Except = c.Except[:min(len(c.Except), 6)]
		other := d.some()
		l := other.Except[:min(len(other.Except), 4)]
		amended, e := code.Amended(c, l)
		want(t, "the error of Amended", 0, e, 0, api.OK)
		for _, m := range append(d.marksAround(c, 50), d.marksAround(other, 50)...) {
			r, e := decided(amended, m)
			right, f := decided(bare(l...), m)
			if f == api.ErrNone {
				right, f = decided(c, m)
				if f == api.OK {
					right.number += len(l)
				}
			}
			want(t, "Decide of "+shown(m)+" by an amended code", r, e, right, f)
		}
	}
}

// TestP9_10LeastChange looks for lesser marks that are accepted, and cost less.
func TestP9_10LeastChange(t *testing.T) {
	d := newDice(14)
	for range 1000 {
		c := d.some()
		m := d.marksAround(c, 1)[0]
		weights := []int{d.from(0, 100), d.from(0, 3), d.from(0, 100)}
		x, e := leastChange(c, m, weights...)
		if e == api.OK && !isAccepted(c, x.mark) {
			t.Errorf("LeastChange of %v by %v: %v is not accepted", m, c, x)
		}
		lesser := boxOf(m)
		for quantity := height; quantity <= level; quantity++ {
			lesser[quantity].Lo = 0
		}
		for range 100 {
			y := d.mark(lesser)
			cost := 0
			for n, weight := range weights {
				cost += weight * (m[height+n] - y[height+n])
			}
			if isAccepted(c, y) && (e != api.OK || cost < x.cost || cost == x.cost && rising(y, x.mark) < 0) {
				t.Errorf("LeastChange of %v by %v: %v; %v costs %d", m, c, x, y, cost)
			}
		}
		a, _ := answer(c, lesser)
		want(t, "whether some lesser mark is accepted", e == api.OK, api.OK, a.answer != api.AnswerNo, api.OK)
	}
}

// boxOf is the box with one mark alone.
func boxOf(m api.CodeMark) api.CodeBox {
	var b api.CodeBox
	for quantity, n := range m {
		b[quantity] = ends(n, n)
	}
	return b
}

// TestP9_10Rises looks at lesser marks of codes without rises.
func TestP9_10Rises(t *testing.T) {
	d := newDice(15)
	smooth := 0
	for n := range 150 {
		c := d.some()
		if n%2 == 0 {
			c = d.steps()
		}
		isSmooth := true
		for quantity := range api.CodeQuantity {
			x, e := firstRise(c, quantity)
			isSmooth = isSmooth && (e != api.OK || quantity < height)
			if e == api.OK {
				want(t, "whether a rise is one", rises(c, x, quantity), api.OK, true, api.OK)
			}
		}
		if !isSmooth {
			continue
		}
		for _, m := range d.marksAround(c, 50) {
			x := m
			for quantity := height; quantity <= level; quantity++ {
				x[quantity] = d.from(0, m[quantity])
			}
			if isAccepted(c, m) && !isAccepted(c, x) {
				t.Errorf("%v is accepted, %v is not, by %v", m, x, c)
			}
			if isAccepted(c, m) {
				smooth++
			}
		}
	}
	want(t, "whether some codes had no rises", smooth > 100, api.OK, true, api.OK)
}

// steps rolls a code that accepts by limits from 0 on alone.
func (d dice) steps() api.Code {
	c := bare()
	for range d.from(1, 9) {
		r := row(accept)
		for quantity := height; quantity <= level; quantity++ {
			r.Box[quantity].Hi = d.from(0, r.Box[quantity].Hi)
		}
		c.Rows = append(c.Rows, r)
	}
	c.Rows = append(c.Rows, row(reject))
	return c
}

// rises tells whether a mark is not accepted, and is with a greater number of a quantity, and none between.
func rises(c api.Code, x risen, quantity int) bool {
	m := x.mark
	if isAccepted(c, m) || x.greater <= m[quantity] {
		return false
	}
	for _, n := range worldOf(c).numbers(quantity, ends(x.mark[quantity], x.greater)) {
		m[quantity] = n
		if isAccepted(c, m) != (n == x.greater) {
			return false
		}
	}
	return true
}

// TestP9_11 parses texts of right codes and marks.
func TestP9_11(t *testing.T) {
	d := newDice(16)
	for range 1000 {
		c := d.some()
		text, e := code.Print(c)
		want(t, "the error of Print", 0, e, 0, api.OK)
		got, m, e := code.Parse(text)
		want(t, "Parse", got, e, c, api.OK)
		want(t, "the mark of Parse", m, e, api.TextMark{}, api.OK)
		mark := d.mark(whole())
		back, e := code.ParseMark(code.FormatMark(mark))
		want(t, "ParseMark", back, e, mark, api.OK)
	}
}
