package code_test

import (
	"slices"
	"testing"

	"couplant/api"
	"couplant/code"
)

// changed is what LeastChange returns beside the error, and risen what FirstRise does.
type changed struct {
	mark api.CodeMark
	cost int
}

func leastChange(c api.Code, m api.CodeMark, weights ...int) (changed, api.Errno) {
	x, cost, e := code.LeastChange(c, api.CodeWish{Mark: m, Weights: [3]int(weights)})
	return changed{x, cost}, e
}

type risen struct {
	mark    api.CodeMark
	greater int
}

func firstRise(c api.Code, quantity int) (risen, api.Errno) {
	m, n, e := code.FirstRise(c, quantity)
	return risen{m, n}, e
}

func TestP9_4Differs(t *testing.T) {
	plain := strict()
	plain.Except = nil
	renamed := strict()
	renamed.Name = "other"
	zero := api.CodeMark{}
	for _, x := range []struct {
		a, b  api.Code
		right api.CodeMark
		e     api.Errno
	}{
		{strict(), plain, api.CodeMark{1, 0, 0, 0, 0, 50}, api.OK}, {strict(), strict(), zero, api.ErrNone}, {strict(), renamed, zero, api.ErrNone}, {bare(), bare(), zero, api.ErrNone}, {bare(), bare(row(accept)), zero, api.OK}, {bare(row(reject)), bare(row(repeat)), zero, api.OK},
		// Which row decides does not matter, nor whether it is an exception.
		{bare(row(accept)), bare(row(accept, limit{kind, 0, 4}), row(accept, limit{kind, 5, 9})), zero, api.ErrNone}, {bare(row(reject)), excepted(row(reject)), zero, api.ErrNone}, {bare(row(reject)), bare(row(reject), row(accept)), zero, api.ErrNone},
		{bare(row(reject, limit{kind, 3, 3}), row(accept)), bare(row(accept, limit{kind, 0, 2}), row(accept, limit{kind, 4, 9}), row(reject)), zero, api.ErrNone},
		{bare(row(reject, limit{kind, 3, 3}), row(accept)), bare(row(accept, limit{kind, 0, 2}), row(accept, limit{kind, 4, 9}), row(reject, limit{level, 0, 199})), api.CodeMark{3, 0, 0, 0, 0, 200}, api.OK},
		{bare(row(accept, limit{length, 0, 7})), bare(row(accept, limit{length, 0, 8})), api.CodeMark{0, 0, 0, 0, 8, 0}, api.OK}, {bare(row(accept, limit{thick, 9, 9}, limit{depth, 8, 8})), bare(), api.CodeMark{0, 9, 8}, api.OK},
	} {
		m, e := code.Differs(x.a, x.b)
		want(t, "Differs of "+shown(x.a)+" and "+shown(x.b), m, e, x.right, x.e)
		m, e = code.Differs(x.b, x.a)
		want(t, "Differs of "+shown(x.b)+" and "+shown(x.a), m, e, x.right, x.e)
	}
	for _, x := range wrongCodes() {
		m, e := code.Differs(x.c, api.Code{Name: "s", Rows: make([]api.CodeRow, 11)})
		want(t, "Differs of a wrong code", m, e, zero, x.right)
		m, e = code.Differs(strict(), x.c)
		want(t, "Differs of a second wrong code", m, e, zero, x.right)
	}
	d := newDice(6)
	for range 400 {
		w := d.world(4)
		a, b := d.pair(w)
		right, f := w.first(whole(), func(m api.CodeMark) bool { return differAt(a, b, m) })
		m, e := code.Differs(a, b)
		want(t, "Differs of "+shown(a)+" and "+shown(b), m, e, right, f)
	}
}

// pair rolls two codes, of which the second one is often the first one with a change.
func (d dice) pair(w world) (api.Code, api.Code) {
	a := d.code(w, 5)
	b := api.Code{Name: "e", Except: slices.Clone(a.Except), Rows: slices.Clone(a.Rows)}
	switch d.from(0, 3) {
	case 0:
		b = d.code(w, 5)
	case 1:
		b.Rows = append(b.Rows, d.rows(w, 2)...)
	case 2:
		slices.Reverse(b.Rows)
	default:
		b.Except = d.rows(w, 5)
	}
	return a, b
}

func TestP9_4Changed(t *testing.T) {
	plain := strict()
	plain.Except = nil
	for _, x := range []struct {
		limits []limit
		right  int
	}{
		{nil, api.AnswerMaybe}, {[]limit{{kind, 0, 0}}, api.AnswerNo}, {[]limit{{kind, 1, 1}}, api.AnswerMaybe}, {[]limit{{kind, 1, 1}, {height, 0, 200}, {level, 50, 60}}, api.AnswerYes}, {[]limit{{kind, 1, 1}, {height, 0, 200}, {level, 49, 60}}, api.AnswerMaybe},
		{[]limit{{kind, 1, 1}, {height, 200, 201}, {level, 50, 60}}, api.AnswerMaybe}, {[]limit{{kind, 1, 1}, {height, 201, 201}, {level, 50, 60}}, api.AnswerNo}, {[]limit{{kind, 1, 2}, {height, 0, 200}, {level, 50, 60}}, api.AnswerMaybe}, {[]limit{{kind, 2, 9}}, api.AnswerNo},
	} {
		n, e := code.Changed(strict(), plain, box(x.limits...))
		want(t, "Changed in "+shown(x.limits), n, e, x.right, api.OK)
		n, e = code.Changed(plain, strict(), box(x.limits...))
		want(t, "Changed in "+shown(x.limits), n, e, x.right, api.OK)
	}
	n, e := code.Changed(bare(), bare(row(accept)), whole())
	want(t, "Changed of all that was open", n, e, api.AnswerYes, api.OK)
	n, e = code.Changed(bare(), bare(), whole())
	want(t, "Changed of what is open", n, e, api.AnswerNo, api.OK)
	for _, x := range wrongCodes() {
		n, e := code.Changed(x.c, api.Code{}, box(limit{kind, 1, 0}))
		want(t, "Changed of a wrong code", n, e, 0, x.right)
		n, e = code.Changed(strict(), x.c, box(limit{kind, 1, 0}))
		want(t, "Changed of a second wrong code", n, e, 0, x.right)
	}
	for _, x := range wrongBoxes() {
		n, e := code.Changed(strict(), bare(), x.b)
		want(t, "Changed in a wrong box", n, e, 0, x.right)
	}
	d := newDice(7)
	for range 400 {
		w := d.world(4)
		a, b := d.pair(w)
		in := d.limits(w, 2)
		_, f := w.first(in, func(m api.CodeMark) bool { return differAt(a, b, m) })
		_, g := w.first(in, func(m api.CodeMark) bool { return !differAt(a, b, m) })
		n, e := code.Changed(a, b, in)
		want(t, "Changed of "+shown(a)+" and "+shown(b)+" in "+shown(in), n, e, answerOf(f, g), api.OK)
	}
}

func TestP9_4Amended(t *testing.T) {
	plain := strict()
	plain.Except = nil
	one, two, three := row(accept, limit{kind, 3, 4}), row(repeat), row(reject, limit{level, 7, 7})
	ten := slices.Repeat([]api.CodeRow{one}, 10)
	full := excepted(ten...)
	for _, x := range []struct {
		c     api.Code
		l     []api.CodeRow
		right api.Code
		e     api.Errno
	}{
		{plain, strict().Except, strict(), api.OK}, {strict(), nil, strict(), api.OK}, {bare(), []api.CodeRow{one}, api.Code{Name: "b", Except: []api.CodeRow{one}}, api.OK},
		{excepted(one), []api.CodeRow{two, three}, excepted(two, three, one), api.OK}, {excepted(ten[:4]...), ten[4:], full, api.OK}, {full, nil, full, api.OK}, {excepted(), ten, full, api.OK},
		{full, []api.CodeRow{two}, api.Code{}, api.ErrFull}, {excepted(ten[:5]...), ten[:6], api.Code{}, api.ErrFull}, {excepted(), append(ten, one), api.Code{}, api.ErrFull}, {bare(), slices.Repeat([]api.CodeRow{two}, 1000), api.Code{}, api.ErrFull},
	} {
		c, e := code.Amended(x.c, x.l)
		want(t, "Amended of "+shown(x.c)+" by "+shown(x.l), c, e, x.right, x.e)
	}
	for _, x := range wrongCodes() {
		c, e := code.Amended(x.c, []api.CodeRow{row(3)})
		want(t, "Amended of a wrong code", c, e, api.Code{}, x.right)
	}
	for _, x := range wrongRows() {
		for _, l := range [][]api.CodeRow{{x.r}, {one, x.r}, append(ten, x.r), {one, x.r, row(3)}, {one, x.r, {Box: box(limit{kind, 1, 0})}}} {
			c, e := code.Amended(strict(), l)
			want(t, "Amended by a wrong row", c, e, api.Code{}, x.right)
		}
	}
}

func TestP9_5LeastChange(t *testing.T) {
	steps := bare(row(accept, limit{height, 0, 10}, limit{length, 0, 10}), row(accept, limit{height, 0, 5}, limit{length, 0, 30}), row(accept, limit{level, 3, 4}, limit{height, 7, 9}))
	none := changed{}
	for _, x := range []struct {
		c       api.Code
		m       api.CodeMark
		weights []int
		right   changed
		e       api.Errno
	}{
		{strict(), api.CodeMark{1, 1000, 100, 250, 500, 60}, []int{1, 1, 10}, changed{api.CodeMark{1, 1000, 100, 200, 500, 49}, 160}, api.OK}, {strict(), api.CodeMark{0, 1000, 100, 250, 500, 60}, []int{1, 1, 10}, changed{api.CodeMark{0, 1000, 100, 200, 500, 60}, 50}, api.OK},
		// What is accepted costs nothing: it is the mark itself, or a lesser one if that costs nothing, too.
		{strict(), api.CodeMark{0, 7, 8, 150, 500, 60}, []int{1, 1, 1}, changed{api.CodeMark{0, 7, 8, 150, 500, 60}, 0}, api.OK}, {strict(), api.CodeMark{0, 7, 8, 150, 500, 60}, []int{1, 0, 1}, changed{api.CodeMark{0, 7, 8, 150, 0, 60}, 0}, api.OK},
		{strict(), api.CodeMark{0, 7, 8, 150, 500, 60}, []int{0, 0, 0}, changed{api.CodeMark{0, 7, 8}, 0}, api.OK}, {strict(), api.CodeMark{1, 7, 8, 250, 500, 60}, []int{0, 0, 2}, changed{api.CodeMark{1, 7, 8, 0, 0, 49}, 22}, api.OK},
		{steps, api.CodeMark{0, 0, 0, 12, 25, 9}, []int{1, 1, 1}, changed{api.CodeMark{0, 0, 0, 5, 25, 9}, 7}, api.OK}, {steps, api.CodeMark{0, 0, 0, 12, 25, 9}, []int{4, 1, 5}, changed{api.CodeMark{0, 0, 0, 10, 10, 9}, 23}, api.OK}, {steps, api.CodeMark{0, 0, 0, 12, 25, 9}, []int{1, 5, 0}, changed{api.CodeMark{0, 0, 0, 9, 25, 3}, 3}, api.OK},
		// Of the same cost the least mark counts.
		{steps, api.CodeMark{0, 0, 0, 12, 15, 200}, []int{1, 1, 1}, changed{api.CodeMark{0, 0, 0, 5, 15, 200}, 7}, api.OK}, {steps, api.CodeMark{0, 0, 0, 10, 15, 200}, []int{1, 1, 1}, changed{api.CodeMark{0, 0, 0, 5, 15, 200}, 5}, api.OK}, {steps, api.CodeMark{0, 0, 0, 11, 15, 200}, []int{1, 1, 1}, changed{api.CodeMark{0, 0, 0, 5, 15, 200}, 6}, api.OK},
		{bare(row(accept, limit{height, 4, 4}), row(accept, limit{height, 3, 3}, limit{length, 7, 7})), api.CodeMark{0, 0, 0, 4, 7, 0}, []int{0, 1, 1}, changed{api.CodeMark{0, 0, 0, 3, 7, 0}, 0}, api.OK},
		{bare(row(accept)), most(), []int{100, 100, 100}, changed{most(), 0}, api.OK}, {bare(row(accept, limit{height, 0, 0}, limit{length, 0, 0}, limit{level, 0, 0})), most(), []int{100, 100, 100}, changed{api.CodeMark{9, 20000, 20000}, 12020000}, api.OK},
		{strict(), api.CodeMark{1, 0, 0, 0, 0, 49}, []int{1, 1, 1}, changed{api.CodeMark{1, 0, 0, 0, 0, 49}, 0}, api.OK}, {bare(), api.CodeMark{}, []int{1, 1, 1}, none, api.ErrNone}, {bare(row(reject)), most(), []int{1, 1, 1}, none, api.ErrNone},
		// Only lesser numbers help, and only those of height, length and level.
		{bare(row(accept, limit{height, 5, 9})), api.CodeMark{0, 0, 0, 4}, []int{1, 1, 1}, none, api.ErrNone}, {bare(row(accept, limit{kind, 0, 1})), api.CodeMark{2}, []int{1, 1, 1}, none, api.ErrNone}, {bare(row(accept, limit{thick, 0, 1})), api.CodeMark{0, 2}, []int{1, 1, 1}, none, api.ErrNone}, {bare(row(accept, limit{depth, 0, 1})), api.CodeMark{0, 0, 2}, []int{1, 1, 1}, none, api.ErrNone},
	} {
		got, e := leastChange(x.c, x.m, x.weights...)
		want(t, "LeastChange of "+shown(x.m)+shown(x.weights), got, e, x.right, x.e)
	}
	for _, x := range wrongCodes() {
		got, e := leastChange(x.c, api.CodeMark{-1}, -1, -1, -1)
		want(t, "LeastChange by a wrong code", got, e, none, x.right)
	}
	for _, m := range wrongMarks() {
		got, e := leastChange(strict(), m, -1, -1, -1)
		want(t, "LeastChange of a wrong mark", got, e, none, api.ErrRange)
	}
	for _, n := range []int{smallest, -1, 101, greatest} {
		for at := range 3 {
			weights := []int{1, 100, 0}
			weights[at] = n
			got, e := leastChange(bare(), api.CodeMark{}, weights...)
			want(t, "LeastChange of a wrong weight", got, e, none, api.ErrRange)
		}
	}
}

func TestP9_5LeastChangeOfMany(t *testing.T) {
	d := newDice(8)
	paid := 0
	for n := range 2000 {
		w := d.world(5)
		c, m := d.code(w, 6), d.mark(d.limits(w, 2))
		weights := []int{d.one(0, 1, 1, d.from(0, 100)), d.one(0, 1, 1, d.from(0, 100)), d.one(0, 1, 1, d.from(0, 100))}
		if n%200 == 0 {
			c = d.large(n%400 == 0)
			w = worldOf(c)
		}
		right, f := rightChange(w, c, m, weights)
		got, e := leastChange(c, m, weights...)
		want(t, "LeastChange of "+shown(m)+shown(weights)+" by "+shown(c), got, e, right, f)
		if right.cost > 0 {
			paid++
		}
	}
	want(t, "whether some cost something", paid > 100, api.OK, true, api.OK)
}

// worldOf is the numbers at which the ranges of a code begin, or behind which they end.
func worldOf(c api.Code) world {
	var w world
	for _, r := range slices.Concat(c.Except, c.Rows) {
		for quantity, r := range r.Box {
			w[quantity] = append(w[quantity], r.Lo, r.Hi+1)
		}
	}
	return w
}

// rightChange looks at all marks with lesser height, length and level whose numbers are numbers of a world.
func rightChange(w world, c api.Code, m api.CodeMark, weights []int) (changed, api.Errno) {
	lesser := api.CodeBox{}
	for quantity, n := range m {
		lesser[quantity] = ends(n, n)
		if quantity >= height {
			lesser[quantity].Lo = 0
		}
	}
	best, e := changed{}, api.ErrNone
	for x := range w.marks(lesser) {
		cost := weights[0]*(m[height]-x[height]) + weights[1]*(m[length]-x[length]) + weights[2]*(m[level]-x[level])
		if (e != api.OK || cost < best.cost) && isAccepted(c, x) {
			best, e = changed{x, cost}, api.OK
		}
	}
	return best, e
}

func TestP9_5FirstRise(t *testing.T) {
	other := strict()
	other.Except[0].Box[kind] = ends(0, 0)
	cut := strict()
	cut.Rows = cut.Rows[:1]
	none := risen{}
	for _, x := range []struct {
		c        api.Code
		quantity int
		right    risen
		e        api.Errno
	}{
		{strict(), kind, risen{api.CodeMark{1, 0, 0, 0, 0, 50}, 2}, api.OK}, {strict(), thick, none, api.ErrNone}, {strict(), depth, none, api.ErrNone}, {strict(), height, none, api.ErrNone}, {strict(), length, none, api.ErrNone}, {strict(), level, none, api.ErrNone},
		{other, kind, risen{api.CodeMark{0, 0, 0, 0, 0, 50}, 1}, api.OK}, {bare(), kind, none, api.ErrNone}, {bare(row(accept)), length, none, api.ErrNone}, {bare(row(reject)), length, none, api.ErrNone},
		// What is open is not accepted: it may have a rise.
		{bare(row(accept, limit{height, 5, 9})), height, risen{api.CodeMark{}, 5}, api.OK}, {bare(row(accept, limit{height, 5, 9}, limit{level, 3, 4}, limit{kind, 2, 2})), height, risen{api.CodeMark{2, 0, 0, 0, 0, 3}, 5}, api.OK}, {bare(row(accept, limit{height, 0, 9})), height, none, api.ErrNone}, {cut, height, none, api.ErrNone},
		{bare(row(accept, limit{level, 200, 200})), level, risen{api.CodeMark{}, 200}, api.OK}, {bare(row(accept, limit{kind, 0, 4}), row(accept, limit{kind, 9, 9})), kind, risen{api.CodeMark{5}, 9}, api.OK}, {bare(row(accept, limit{kind, 0, 4}), row(accept, limit{kind, 7, 9}), row(accept, limit{kind, 6, 6}, limit{thick, 0, 0})), kind, risen{api.CodeMark{5}, 6}, api.OK},
		// The least mark counts first, then the least number, also where a lesser number of this quantity has a rise with a greater number behind it.
		{bare(row(accept, limit{thick, 9, 9}, limit{depth, 4, 4}), row(accept, limit{thick, 5, 20000}, limit{depth, 6, 6})), thick, risen{api.CodeMark{0, 0, 4}, 9}, api.OK},
		{bare(row(accept, limit{thick, 0, 0}, limit{depth, 0, 3}), row(accept, limit{thick, 9, 9}, limit{depth, 4, 4}), row(accept, limit{thick, 5, 6}, limit{depth, 2, 3})), thick, risen{api.CodeMark{0, 0, 4}, 9}, api.OK},
		{bare(row(accept, limit{thick, 0, 0}, limit{depth, 0, 4}), row(accept, limit{thick, 9, 9}, limit{depth, 4, 4}), row(accept, limit{thick, 5, 6}, limit{depth, 2, 3})), thick, risen{api.CodeMark{0, 1, 2}, 5}, api.OK},
		// A quantity behind comes first if its least mark does.
		{bare(row(accept, limit{level, 1, 1}, limit{thick, 2, 2}), row(accept, limit{level, 2, 2}, limit{thick, 1, 1})), level, risen{api.CodeMark{0, 1, 0, 0, 0, 0}, 2}, api.OK},
		{excepted(row(reject, limit{length, 7, 8}), row(reject, limit{length, 10, 10})), length, risen{api.CodeMark{0, 0, 0, 0, 7, 0}, 9}, api.OK}, {excepted(row(reject, limit{length, 7, 8}), row(repeat, limit{length, 9, 10})), length, risen{api.CodeMark{0, 0, 0, 0, 7, 0}, 11}, api.OK}, {excepted(row(reject, limit{length, 7, 100000})), length, none, api.ErrNone},
	} {
		got, e := firstRise(x.c, x.quantity)
		want(t, "FirstRise of "+shown(x.c)+" and "+shown(x.quantity), got, e, x.right, x.e)
	}
	for _, x := range wrongCodes() {
		got, e := firstRise(x.c, -1)
		want(t, "FirstRise of a wrong code", got, e, none, x.right)
	}
	for _, n := range []int{smallest, -1, 6, greatest} {
		got, e := firstRise(strict(), n)
		want(t, "FirstRise of no quantity", got, e, none, api.ErrKind)
	}
	d := newDice(9)
	rises := 0
	for range 300 {
		w := d.world(4)
		c, quantity := d.code(w, 4), d.from(0, 5)
		right, f := rightRise(w, c, quantity)
		got, e := firstRise(c, quantity)
		want(t, "FirstRise of "+shown(c)+" and "+shown(quantity), got, e, right, f)
		if f == api.OK && rising(right.mark, api.CodeMark{0, 0, 1}) > 0 {
			rises++
		}
	}
	want(t, "whether some rises were not the first ones", rises > 20, api.OK, true, api.OK)
}

// rightRise looks at all marks whose numbers are numbers of a world, and at all greater ones.
func rightRise(w world, c api.Code, quantity int) (risen, api.Errno) {
	right := risen{}
	_, e := w.first(whole(), func(m api.CodeMark) bool {
		if isAccepted(c, m) {
			return false
		}
		for _, n := range w.numbers(quantity, whole()[quantity]) {
			x := m
			x[quantity] = n
			if n > m[quantity] && isAccepted(c, x) {
				right = risen{m, n}
				return true
			}
		}
		return false
	})
	return right, e
}
