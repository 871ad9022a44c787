package code_test

import (
	"slices"
	"strings"
	"testing"

	"couplant/api"
	"couplant/code"
)

// TestP9NoPanic (R2) calls all functions with numbers of all sizes, and texts of all kinds.
func TestP9NoPanic(t *testing.T) {
	numbers := []int{smallest, smallest + 1, -1000000, -2, -1, 0, 1, 2, 3, 5, 6, 9, 10, 11, 100, 200, 201, 20000, 20001, 100000, 100001, 1000000, greatest - 1, greatest}
	words := []string{"code", "s", "except", "row", "accept", "reject", "repeat", "kind", "thick", "level", "0", "5", "9", "10", "200", "-1", "\n", "\n", "\nrow ", "\nexcept ", "#", "\t", " ", "\r", "\xff", "\x00", ""}
	d := newDice(17)
	roll := func() int { return numbers[d.IntN(len(numbers))] }
	for range 5000 {
		w := d.world(3)
		a, b, l := d.code(w, 4), d.code(w, 4), d.rows(w, 3)
		m, in, weights, n := d.mark(whole()), d.limits(w, 2), [3]int{1, 0, 100}, d.from(0, 5)
		for _, change := range []func(){
			func() { a.Except = append(a.Except, row(roll(), limit{d.from(0, 5), roll(), roll()})) },
			func() { b.Rows = append(b.Rows, row(roll())) },
			func() { a.Rows, b.Except = nil, nil },
			func() { a.Name = words[d.IntN(len(words))] },
			func() { l = append(l, row(1, limit{d.from(0, 5), roll(), roll()})) },
			func() { m[d.from(0, 5)] = roll() },
			func() { in[d.from(0, 5)] = ends(roll(), roll()) },
			func() { weights[d.from(0, 2)] = roll() },
			func() { n = roll() },
		} {
			if d.from(0, 9) == 0 {
				change()
			}
		}
		code.CheckCode(a)
		code.CheckMark(m)
		code.CheckBox(in)
		code.Decide(a, m)
		code.FirstGap(a)
		code.FirstClash(a)
		code.Idle(a)
		code.Answer(a, in)
		code.Differs(a, b)
		code.Changed(a, b, in)
		code.LeastChange(a, api.CodeWish{Mark: m, Weights: weights})
		code.FirstRise(a, n)
		code.Completed(a, n)
		code.Amended(a, l)
		code.ParseMark(code.FormatMark(m))
		code.Print(a)
		text := []string{"code s\n"}[:d.from(0, 1)]
		for range d.from(0, 12) {
			text = append(text, words[d.IntN(len(words))])
		}
		code.Parse(strings.Join(text, []string{"", " "}[d.from(0, 1)]))
	}
}

// TestP9Large answers for codes with as many exceptions and rows as possible, all of which limit all quantities: there are too many kinds of marks to look at each one.
func TestP9Large(t *testing.T) {
	d := newDice(18)
	for n := range 4 {
		c := d.large(n > 1)
		gap, e := code.FirstGap(c)
		want(t, "whether the gap is open", 0, e, 0, api.OK)
		want(t, "whether the gap is open", 0, decideError(c, gap), 0, api.ErrNone)
		for _, m := range d.marksAround(c, 2000) {
			if first, _ := deciding(c, m); first < 0 && rising(m, gap) < 0 {
				t.Errorf("FirstGap of %v: %v; %v is open, too", c, gap, m)
			}
		}
		for quantity := range api.CodeQuantity {
			if x, e := firstRise(c, quantity); e == api.OK {
				want(t, "whether a rise is one", rises(c, x, quantity), api.OK, true, api.OK)
			}
		}
		c.Rows = append(c.Rows[:9], row(accept))
		a, e := answer(c, whole())
		want(t, "the answer of all", a.answer, e, api.AnswerMaybe, api.OK)
		_, e = code.Differs(c, c)
		want(t, "Differs of a code and itself", 0, e, 0, api.ErrNone)
	}
}

// TestP9Memory (R3) writes into results, and behind them: arguments, and results of later calls, stay as they are.
func TestP9Memory(t *testing.T) {
	// All lists have room for one more element behind their last one.
	room := func(l []api.CodeRow) []api.CodeRow { return append(slices.Clone(l), row(repeat))[:len(l)] }
	c := strict()
	c.Except, c.Rows = room(c.Except), room(c.Rows[:1])
	l := room([]api.CodeRow{row(accept, limit{kind, 7, 7})})
	spoil := func(x api.Code) string {
		text := shown(x)
		for _, rows := range [][]api.CodeRow{x.Except, x.Rows} {
			for n := range rows {
				rows[n] = row(reject)
			}
		}
		// Behind one list of a result lies nothing of another one.
		_ = append(x.Except, row(77))
		_ = append(x.Rows, row(88))
		if strings.Contains(shown(x), "77") || strings.Contains(shown(x), "88") {
			t.Errorf("a list of %v reaches into another one", x)
		}
		return text
	}
	for n, result := range []func() string{
		func() string { x, _ := code.Completed(c, reject); return spoil(x) },
		func() string { x, _ := code.Amended(c, l); return spoil(x) },
		func() string { x, _ := code.Amended(c, nil); return spoil(x) },
		func() string { x, _ := code.Amended(api.Code{Name: "e"}, l); return spoil(x) },
		func() string { x, _, _ := code.Parse(allText); return spoil(x) },
		func() string {
			idle, _ := code.Idle(bare(row(accept), row(accept), row(reject)))
			text := shown(idle)
			for n := range idle {
				idle[n] += 77
			}
			_ = append(idle, 88)
			return text
		},
	} {
		first := result()
		want(t, "a result again", result(), api.OK, first, api.OK)
		if len(first) < 5 || t.Failed() {
			t.Fatalf("the result %d is spoiled", n)
		}
	}
	code.Answer(c, whole())
	code.Differs(c, c)
	code.FirstRise(c, level)
	code.LeastChange(c, api.CodeWish{Mark: most()})
	right := strict()
	want(t, "the exceptions", c.Except[:2], api.OK, append(right.Except, row(repeat)), api.OK)
	want(t, "the rows", c.Rows[:2], api.OK, append(right.Rows[:1], row(repeat)), api.OK)
	want(t, "the exceptions that are added", l[:2], api.OK, []api.CodeRow{row(accept, limit{kind, 7, 7}), row(repeat)}, api.OK)
}
