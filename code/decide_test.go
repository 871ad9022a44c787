package code_test

import (
	"slices"
	"testing"

	"couplant/api"
	"couplant/code"
)

// ruling is what Decide returns beside the error.
type ruling struct{ number, decision int }

func decided(c api.Code, m api.CodeMark) (ruling, api.Errno) {
	n, decision, e := code.Decide(c, m)
	return ruling{n, decision}, e
}

// answered is what Answer returns beside the error.
type answered struct {
	answer          int
	accepted, other api.CodeMark
}

func answer(c api.Code, b api.CodeBox) (answered, api.Errno) {
	n, marks, e := code.Answer(c, b)
	return answered{n, marks[0], marks[1]}, e
}

// clash is what FirstClash returns beside the error.
type clash struct {
	numbers [2]int
	mark    api.CodeMark
}

func firstClash(c api.Code) (clash, api.Errno) {
	numbers, m, e := code.FirstClash(c)
	return clash{numbers, m}, e
}

func TestP9_2Decide(t *testing.T) {
	open := strict()
	open.Rows = open.Rows[1:]
	for _, x := range []struct {
		c     api.Code
		m     api.CodeMark
		right ruling
		e     api.Errno
	}{
		{strict(), api.CodeMark{0, 1000, 100, 150, 500, 20}, ruling{1, accept}, api.OK}, {strict(), api.CodeMark{1, 1000, 100, 150, 500, 60}, ruling{0, reject}, api.OK},
		{strict(), api.CodeMark{1, 1000, 100, 150, 500, 49}, ruling{1, accept}, api.OK}, {strict(), api.CodeMark{1, 1000, 100, 150, 500, 50}, ruling{0, reject}, api.OK}, {strict(), api.CodeMark{2, 0, 0, 0, 0, 200}, ruling{1, accept}, api.OK},
		{strict(), api.CodeMark{0, 0, 0, 200, 0, 0}, ruling{1, accept}, api.OK}, {strict(), api.CodeMark{0, 0, 0, 201, 0, 0}, ruling{2, reject}, api.OK}, {strict(), most(), ruling{2, reject}, api.OK}, {strict(), api.CodeMark{1, 0, 0, 20000, 0, 50}, ruling{0, reject}, api.OK},
		{open, api.CodeMark{0, 0, 0, 200, 0, 0}, ruling{}, api.ErrNone}, {open, api.CodeMark{0, 0, 0, 201, 0, 0}, ruling{1, reject}, api.OK}, {bare(), api.CodeMark{}, ruling{}, api.ErrNone}, {bare(), most(), ruling{}, api.ErrNone},
		{bare(row(repeat, limit{kind, 5, 5}), row(accept, limit{kind, 5, 6})), api.CodeMark{5}, ruling{0, repeat}, api.OK}, {bare(row(repeat, limit{kind, 5, 5}), row(accept, limit{kind, 5, 6})), api.CodeMark{6}, ruling{1, accept}, api.OK},
		// A mark may be deeper and higher than thick.
		{strict(), api.CodeMark{0, 0, 20000, 20000, 0, 0}, ruling{2, reject}, api.OK},
	} {
		r, e := decided(x.c, x.m)
		want(t, "Decide of "+shown(x.m), r, e, x.right, x.e)
	}
	for _, x := range wrongCodes() {
		for _, m := range []api.CodeMark{{}, {-1}} {
			r, e := decided(x.c, m)
			want(t, "Decide by a wrong code", r, e, ruling{}, x.right)
		}
	}
	for _, m := range wrongMarks() {
		r, e := decided(strict(), m)
		want(t, "Decide of a wrong mark", r, e, ruling{}, api.ErrRange)
		r, e = decided(bare(), m)
		want(t, "Decide of a wrong mark that is open", r, e, ruling{}, api.ErrRange)
	}
	d := newDice(1)
	for range 3000 {
		w := d.world(4)
		c, m := d.code(w, 10), d.mark(d.limits(w, 2))
		right, f := ruling{}, api.ErrNone
		if n, decision := deciding(c, m); n >= 0 {
			right, f = ruling{n, decision}, api.OK
		}
		r, e := decided(c, m)
		want(t, "Decide of "+shown(m)+" by "+shown(c), r, e, right, f)
	}
}

func TestP9_2Answer(t *testing.T) {
	one := []limit{{kind, 1, 1}, {height, 0, 100}}
	accepted := bare(row(accept, limit{height, 5, 9}))
	for _, x := range []struct {
		c      api.Code
		limits []limit
		right  answered
	}{
		{strict(), one, answered{api.AnswerMaybe, api.CodeMark{1}, api.CodeMark{1, 0, 0, 0, 0, 50}}}, {strict(), nil, answered{api.AnswerMaybe, api.CodeMark{}, api.CodeMark{0, 0, 0, 201}}},
		{strict(), append(one, limit{level, 0, 49}), answered{api.AnswerYes, api.CodeMark{1}, api.CodeMark{}}}, {strict(), append(one, limit{level, 50, 200}), answered{api.AnswerNo, api.CodeMark{}, api.CodeMark{1, 0, 0, 0, 0, 50}}},
		{strict(), []limit{{height, 201, 300}}, answered{api.AnswerNo, api.CodeMark{}, api.CodeMark{0, 0, 0, 201}}}, {strict(), []limit{{kind, 0, 0}, {height, 200, 201}, {level, 200, 200}}, answered{api.AnswerMaybe, api.CodeMark{0, 0, 0, 200, 0, 200}, api.CodeMark{0, 0, 0, 201, 0, 200}}},
		// The zero mark stands for none, and is a mark.
		{bare(), nil, answered{api.AnswerNo, api.CodeMark{}, api.CodeMark{}}}, {bare(row(accept)), nil, answered{api.AnswerYes, api.CodeMark{}, api.CodeMark{}}}, {bare(row(repeat)), nil, answered{api.AnswerNo, api.CodeMark{}, api.CodeMark{}}},
		{accepted, nil, answered{api.AnswerMaybe, api.CodeMark{0, 0, 0, 5}, api.CodeMark{}}}, {accepted, []limit{{height, 5, 9}}, answered{api.AnswerYes, api.CodeMark{0, 0, 0, 5}, api.CodeMark{}}}, {accepted, []limit{{height, 10, 20000}}, answered{api.AnswerNo, api.CodeMark{}, api.CodeMark{0, 0, 0, 10}}},
		{accepted, []limit{{height, 9, 10}}, answered{api.AnswerMaybe, api.CodeMark{0, 0, 0, 9}, api.CodeMark{0, 0, 0, 10}}}, {bare(row(accept, limit{level, 0, 99}), row(accept, limit{level, 100, 200})), nil, answered{api.AnswerYes, api.CodeMark{}, api.CodeMark{}}},
		{excepted(row(accept, limit{kind, 9, 9}), row(repeat, limit{kind, 9, 9}, limit{depth, 7, 7})), nil, answered{api.AnswerYes, api.CodeMark{}, api.CodeMark{}}}, {strict(), []limit{{kind, 9, 9}, {thick, 20000, 20000}, {depth, 20000, 20000}, {height, 20000, 20000}, {length, 100000, 100000}, {level, 200, 200}}, answered{api.AnswerNo, api.CodeMark{}, most()}},
	} {
		a, e := answer(x.c, box(x.limits...))
		want(t, "Answer of "+shown(x.limits)+" by "+shown(x.c), a, e, x.right, api.OK)
	}
	for _, x := range wrongCodes() {
		for _, b := range []api.CodeBox{whole(), box(limit{kind, 1, 0})} {
			a, e := answer(x.c, b)
			want(t, "Answer by a wrong code", a, e, answered{}, x.right)
		}
	}
	for _, x := range wrongBoxes() {
		a, e := answer(strict(), x.b)
		want(t, "Answer of a wrong box", a, e, answered{}, x.right)
	}
	d := newDice(2)
	for range 300 {
		w := d.world(4)
		c, b := d.code(w, 4), d.limits(w, 3)
		accepted, e := w.first(b, func(m api.CodeMark) bool { return isAccepted(c, m) })
		other, f := w.first(b, func(m api.CodeMark) bool { return !isAccepted(c, m) })
		a, g := answer(c, b)
		want(t, "Answer of "+shown(b)+" by "+shown(c), a, g, answered{answerOf(e, f), accepted, other}, api.OK)
	}
}

func TestP9_3FirstGap(t *testing.T) {
	cut := strict()
	cut.Rows = cut.Rows[:1]
	for _, x := range []struct {
		c     api.Code
		right api.CodeMark
		e     api.Errno
	}{
		{strict(), api.CodeMark{}, api.ErrNone}, {cut, api.CodeMark{0, 0, 0, 201, 0, 0}, api.OK}, {bare(), api.CodeMark{}, api.OK}, {excepted(), api.CodeMark{}, api.ErrNone}, {bare(row(repeat)), api.CodeMark{}, api.ErrNone},
		{bare(row(accept, limit{kind, 0, 8}), row(accept, limit{level, 0, 199})), api.CodeMark{9, 0, 0, 0, 0, 200}, api.OK},
		{bare(row(accept, limit{kind, 0, 8}), row(accept, limit{thick, 0, 19999}), row(accept, limit{depth, 0, 19999}), row(accept, limit{height, 0, 19999}), row(accept, limit{length, 0, 99999}), row(accept, limit{level, 0, 199})), most(), api.OK},
		{bare(row(accept, limit{thick, 5, 20000}), row(accept, limit{thick, 0, 3})), api.CodeMark{0, 4}, api.OK}, {bare(row(accept, limit{thick, 5, 20000}), row(accept, limit{thick, 0, 4})), api.CodeMark{}, api.ErrNone}, {bare(row(accept, limit{kind, 1, 9}, limit{level, 1, 200})), api.CodeMark{}, api.OK},
		// A lesser number of an earlier quantity counts more than one of a later one.
		{bare(row(accept, limit{kind, 0, 0}, limit{thick, 0, 6}), row(accept, limit{kind, 1, 9})), api.CodeMark{0, 7}, api.OK}, {bare(row(accept, limit{kind, 0, 0}), row(accept, limit{kind, 1, 1}, limit{level, 0, 9})), api.CodeMark{1, 0, 0, 0, 0, 10}, api.OK},
		{api.Code{Name: "x", Except: []api.CodeRow{row(accept, limit{kind, 0, 4})}, Rows: []api.CodeRow{row(reject, limit{kind, 6, 9})}}, api.CodeMark{5}, api.OK},
	} {
		m, e := code.FirstGap(x.c)
		want(t, "FirstGap of "+shown(x.c), m, e, x.right, x.e)
	}
	for _, x := range wrongCodes() {
		m, e := code.FirstGap(x.c)
		want(t, "FirstGap of a wrong code", m, e, api.CodeMark{}, x.right)
	}
	d := newDice(3)
	gaps := 0
	for range 500 {
		w := d.world(4)
		c := d.code(w, 6)
		right, f := w.first(whole(), func(m api.CodeMark) bool { n, _ := deciding(c, m); return n < 0 })
		m, e := code.FirstGap(c)
		want(t, "FirstGap of "+shown(c), m, e, right, f)
		if f == api.OK && len(c.Rows) > 3 {
			gaps++
		}
	}
	want(t, "whether there were gaps of many rows", gaps > 50, api.OK, true, api.OK)
}

func TestP9_3FirstClash(t *testing.T) {
	late := strict()
	late.Rows = append(late.Rows[:1], row(reject, limit{height, 100, 300}))
	none := clash{}
	for _, x := range []struct {
		c     api.Code
		right clash
		e     api.Errno
	}{
		{strict(), none, api.ErrNone}, {bare(), none, api.ErrNone}, {late, clash{[2]int{1, 2}, api.CodeMark{0, 0, 0, 100, 0, 0}}, api.OK},
		// The same decision is no clash, nor is an exception and a row, nor are boxes that touch.
		{bare(row(accept), row(accept)), none, api.ErrNone}, {excepted(row(reject)), none, api.ErrNone}, {bare(row(accept, limit{kind, 0, 4}), row(reject, limit{kind, 5, 9})), none, api.ErrNone},
		{bare(row(accept, limit{kind, 0, 5}), row(repeat, limit{kind, 5, 9})), clash{[2]int{0, 1}, api.CodeMark{5}}, api.OK}, {bare(row(repeat, limit{level, 7, 200}), row(reject, limit{thick, 8, 8})), clash{[2]int{0, 1}, api.CodeMark{0, 8, 0, 0, 0, 7}}, api.OK},
		{bare(row(accept, limit{kind, 1, 1}), row(accept), row(reject), row(repeat, limit{kind, 1, 1})), clash{[2]int{0, 2}, api.CodeMark{1}}, api.OK}, {bare(row(accept, limit{kind, 1, 1}), row(accept, limit{kind, 2, 2}), row(reject, limit{kind, 2, 3}), row(repeat, limit{kind, 1, 9})), clash{[2]int{0, 3}, api.CodeMark{1}}, api.OK},
		{excepted(row(reject, limit{kind, 4, 6}), row(repeat, limit{kind, 3, 5}, limit{length, 9, 10})), clash{[2]int{0, 1}, api.CodeMark{4, 0, 0, 0, 9, 0}}, api.OK}, {api.Code{Name: "x", Except: []api.CodeRow{row(reject)}, Rows: []api.CodeRow{row(repeat), row(accept, limit{kind, 9, 9})}}, clash{[2]int{1, 2}, api.CodeMark{9}}, api.OK},
		// One that is idle clashes, too.
		{excepted(row(reject), row(accept, limit{kind, 3, 3})), clash{[2]int{0, 1}, api.CodeMark{3}}, api.OK},
	} {
		got, e := firstClash(x.c)
		want(t, "FirstClash of "+shown(x.c), got, e, x.right, x.e)
	}
	for _, x := range wrongCodes() {
		got, e := firstClash(x.c)
		want(t, "FirstClash of a wrong code", got, e, none, x.right)
	}
	d := newDice(4)
	for range 300 {
		w := d.world(4)
		c := d.code(w, 3)
		right, f := rightClash(w, c)
		got, e := firstClash(c)
		want(t, "FirstClash of "+shown(c), got, e, right, f)
	}
}

// rightClash is the first clash: two of the exceptions, or of the rows, that decide a mark in other ways when each one stands alone.
func rightClash(w world, c api.Code) (clash, api.Errno) {
	all := slices.Concat(c.Except, c.Rows)
	for n, a := range all {
		for k, b := range all {
			if n >= k || (n < len(c.Except)) != (k < len(c.Except)) || a.Decision == b.Decision {
				continue
			}
			hasBoth := func(m api.CodeMark) bool {
				first, _ := deciding(bare(a), m)
				second, _ := deciding(bare(b), m)
				return first == 0 && second == 0
			}
			if m, e := w.first(whole(), hasBoth); e == api.OK {
				return clash{[2]int{n, k}, m}, api.OK
			}
		}
	}
	return clash{}, api.ErrNone
}

func TestP9_3Idle(t *testing.T) {
	shadowed := strict()
	shadowed.Rows[1].Box[height] = ends(100, 200)
	for _, x := range []struct {
		c     api.Code
		right []int
	}{
		{strict(), nil}, {bare(), nil}, {shadowed, []int{2}}, {bare(row(accept), row(accept), row(reject)), []int{1, 2}}, {excepted(row(reject)), []int{1}}, {excepted(row(reject, limit{kind, 0, 8})), nil},
		// Some together leave nothing to one, and idle ones take nothing away.
		{bare(row(accept, limit{kind, 0, 4}), row(reject, limit{kind, 3, 9}), row(repeat)), []int{2}}, {bare(row(accept, limit{kind, 0, 4}), row(reject, limit{kind, 6, 9}), row(repeat)), nil}, {bare(row(accept), row(reject, limit{kind, 1, 1}), row(repeat, limit{kind, 1, 1})), []int{1, 2}},
		{bare(row(accept, limit{level, 0, 99}), row(accept, limit{level, 100, 200}, limit{kind, 0, 5}), row(repeat, limit{kind, 5, 5}), row(repeat, limit{kind, 5, 6})), []int{2}},
		{api.Code{Name: "x", Except: []api.CodeRow{row(accept, limit{kind, 0, 3}), row(reject, limit{kind, 3, 3})}, Rows: []api.CodeRow{row(reject, limit{kind, 1, 2}), row(reject, limit{kind, 1, 4})}}, []int{1, 2}},
	} {
		l, e := code.Idle(x.c)
		want(t, "Idle of "+shown(x.c), l, e, x.right, api.OK)
	}
	for _, x := range wrongCodes() {
		l, e := code.Idle(x.c)
		want(t, "Idle of a wrong code", l, e, nil, x.right)
	}
	d := newDice(5)
	for range 300 {
		w := d.world(4)
		c := d.code(w, 5)
		isBusy := map[int]bool{}
		for m := range w.marks(whole()) {
			n, _ := deciding(c, m)
			isBusy[n] = true
		}
		var right []int
		for n := range len(c.Except) + len(c.Rows) {
			if !isBusy[n] {
				right = append(right, n)
			}
		}
		l, e := code.Idle(c)
		want(t, "Idle of "+shown(c), l, e, right, api.OK)
	}
}

func TestP9_3Completed(t *testing.T) {
	cut := strict()
	cut.Rows = cut.Rows[:1]
	ten := bare(slices.Repeat([]api.CodeRow{row(accept, limit{kind, 0, 8})}, 10)...)
	nine := bare(ten.Rows[:9]...)
	for _, x := range []struct {
		c        api.Code
		decision int
		right    api.Errno
	}{
		{cut, accept, api.OK}, {cut, reject, api.OK}, {cut, repeat, api.OK}, {bare(), repeat, api.OK}, {nine, reject, api.OK}, {api.Code{Name: "x", Except: ten.Rows}, accept, api.OK},
		{strict(), accept, api.ErrNone}, {bare(row(accept)), reject, api.ErrNone}, {ten, accept, api.ErrFull}, {bare(append(slices.Clone(nine.Rows), row(reject, limit{kind, 9, 9}))...), accept, api.ErrNone},
		{cut, 3, api.ErrKind}, {cut, -1, api.ErrKind}, {cut, smallest, api.ErrKind}, {cut, greatest, api.ErrKind}, {strict(), 3, api.ErrKind}, {ten, -1, api.ErrKind},
	} {
		right := api.Code{}
		if x.right == api.OK {
			right = api.Code{Name: x.c.Name, Except: x.c.Except, Rows: append(slices.Clone(x.c.Rows), row(x.decision))}
		}
		c, e := code.Completed(x.c, x.decision)
		want(t, "Completed of "+shown(x.c), c, e, right, x.right)
	}
	for _, x := range wrongCodes() {
		for _, decision := range []int{accept, 3} {
			c, e := code.Completed(x.c, decision)
			want(t, "Completed of a wrong code", c, e, api.Code{}, x.right)
		}
	}
}
