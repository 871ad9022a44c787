package flaw_test

import (
	"slices"
	"testing"

	"couplant/api"
	"couplant/flaw"
)

// areAlike tells whether two marks are alike, as the chapter defines it.
func areAlike(a, b api.FlawMark, slack int) bool {
	return a.Along.Lo-b.Along.Hi <= slack && b.Along.Lo-a.Along.Hi <= slack && a.Depth.Lo-b.Depth.Hi <= slack && b.Depth.Lo-a.Depth.Hi <= slack
}

// mostPairs is how many right pairs there may be: the first mark has each partner in turn, or none.
func mostPairs(a, b []api.FlawMark, slack int) int {
	if len(a) == 0 {
		return 0
	}
	most := mostPairs(a[1:], b, slack)
	for n := range b {
		if areAlike(a[0], b[n], slack) {
			most = max(most, 1+mostPairs(a[1:], slices.Delete(slices.Clone(b), n, n+1), slack))
		}
	}
	return most
}

// doesCover tells whether marks are a cover, as the chapter defines it.
func doesCover(a, b []api.FlawMark, slack int, c api.FlawCover) bool {
	for n := range a {
		for m := range b {
			if areAlike(a[n], b[m], slack) && !slices.Contains(c.First, n) && !slices.Contains(c.Second, m) {
				return false
			}
		}
	}
	return true
}

func TestP8_7Alike(t *testing.T) {
	a := mark("a", 0, 100, 0, 10)
	for _, x := range []struct {
		b     api.FlawMark
		slack int
		right bool
	}{
		{a, 0, true}, {mark("b", 100, 100, 10, 10), 0, true}, {mark("b", 101, 200, 0, 10), 0, false}, {mark("b", 101, 200, 0, 10), 1, true}, {mark("b", -200, -5, 0, 10), 5, true}, {mark("b", -200, -5, 0, 10), 4, false},
		{mark("b", 0, 100, 15, 20), 5, true}, {mark("b", 0, 100, 15, 20), 4, false}, {mark("b", 0, 100, -20, -5), 5, true}, {mark("b", 0, 100, -20, -5), 4, false}, {mark("b", 105, 105, 15, 15), 5, true}, {mark("b", 105, 105, 16, 16), 5, false}, {mark("b", 106, 106, 15, 15), 5, false},
		{mark("b", 100100, 100100, 0, 10), 100000, true}, {mark("b", 100101, 100101, 0, 10), 100000, false}, {mark("b", -1000000, 1000000, -1000000, 1000000), 0, true},
	} {
		is, e := flaw.Alike(a, x.b, x.slack)
		want(t, "Alike "+shown(x.b), is, e, x.right, api.OK)
		is, e = flaw.Alike(x.b, a, x.slack)
		want(t, "Alike exchanged "+shown(x.b), is, e, x.right, api.OK)
	}
	for _, x := range wrongMarks() {
		is, e := flaw.Alike(x.m, api.FlawMark{}, -1)
		want(t, "Alike of a wrong mark", is, e, false, x.right)
		is, e = flaw.Alike(a, x.m, -1)
		want(t, "Alike with a wrong mark", is, e, false, x.right)
	}
	for _, slack := range wrongSlacks() {
		is, e := flaw.Alike(a, a, slack)
		want(t, "Alike within a wrong slack", is, e, false, api.ErrRange)
	}
}

// checkCompared holds what is compared against what is promised, and returns how many pairs there are.
func checkCompared(t *testing.T, a, b []api.FlawMark, slack int) int {
	t.Helper()
	pairs, c, e := flaw.Compared(a, b, slack)
	lists := [2][]api.FlawMark{a, b}
	n, f := flaw.CheckPairs(lists, slack, pairs)
	want(t, "CheckPairs of Compared", n, f, len(pairs), api.OK)
	n, f = flaw.CheckCover(lists, slack, c)
	want(t, "CheckCover of Compared", n, f, len(pairs), api.OK)
	want(t, "the members of the cover", len(c.First)+len(c.Second), e, len(pairs), api.OK)
	want(t, "whether it is a cover", doesCover(a, b, slack, c), e, true, api.OK)
	want(t, "whether the pairs ascend", slices.IsSortedFunc(pairs, rising), e, true, api.OK)
	var seconds []int
	for n, p := range pairs {
		want(t, "whether a pair is alike", areAlike(a[p[0]], b[p[1]], slack), e, true, api.OK)
		want(t, "whether a first one is twice there", n > 0 && pairs[n-1][0] == p[0], e, false, api.OK)
		want(t, "whether a second one is twice there", slices.Contains(seconds, p[1]), e, false, api.OK)
		seconds = append(seconds, p[1])
	}
	right := api.Frac{}
	f = api.ErrZero
	if all := len(a) + len(b) - len(pairs); all > 0 {
		right, f = lowest(len(pairs), all), api.OK
	}
	agreement, e := flaw.Agreement(a, b, slack)
	want(t, "Agreement", agreement, e, right, f)
	return len(pairs)
}

// lowest is num / den in lowest terms.
func lowest(num, den int) api.Frac {
	for n := den; n > 1; n-- {
		if num%n == 0 && den%n == 0 {
			return frac(num/n, den/n)
		}
	}
	return frac(num, den)
}

func TestP8_7Compared(t *testing.T) {
	pairs, c, e := flaw.Compared(pair(), other(), 2)
	want(t, "the pairs of the sixth example", len(pairs), e, 1, api.OK)
	want(t, "its cover", c, e, api.FlawCover{Second: []int{0}}, api.OK)
	agreement, e := flaw.Agreement(pair(), other(), 2)
	want(t, "its agreement", agreement, e, frac(1, 2), api.OK)
	pairs, c, e = flaw.Compared(other(), pair(), 2)
	want(t, "the pairs of the sixth example exchanged", len(pairs), e, 1, api.OK)
	want(t, "its cover", c, e, api.FlawCover{First: []int{0}}, api.OK)
	same := row(make([]int, 40)...)
	for _, x := range []struct {
		what  string
		a, b  []api.FlawMark
		slack int
		right int
	}{
		{"the sixth example", pair(), other(), 2, 1}, {"its lists exchanged", other(), pair(), 2, 1}, {"too little slack", pair(), other(), 1, 0}, {"no marks", nil, nil, 5, 0}, {"no marks in one list", three(), nil, 5, 0}, {"no marks in the other list", nil, three(), 5, 0},
		{"the same list", three(), three(), 0, 3}, {"the same list within all of it", three(), three(), 100000, 3}, {"twenty marks that are all alike", same, same, 0, 20}, {"twenty marks and one", same, same[:1], 0, 1}, {"one and twenty marks", same[:1], same, 0, 1},
		{"marks that must change their partners", row(0, 30, 0, 20, 0, 10), row(0, 5, 15, 18, 25, 28), 0, 3}, {"a chain", row(0, 2, 4, 6, 8, 10), row(2, 4, 6, 8, 10, 12), 0, 3}, {"a chain the other way", row(8, 10, 4, 6, 0, 2), row(2, 4, 6, 8, 10, 12), 0, 3}, {"two for one", row(0, 1, 2, 3, 50, 60), row(1, 2, 40, 45, 60, 70), 0, 2},
	} {
		want(t, "the pairs of "+x.what, checkCompared(t, x.a, x.b, x.slack), api.OK, x.right, api.OK)
	}
	d := newDice(8)
	counts := map[int]int{}
	for range 4000 {
		a, b, slack := d.marks(7), d.marks(7), d.one(0, 1, 3, 10)
		n := checkCompared(t, a, b, slack)
		want(t, "the pairs of marks", n, api.OK, mostPairs(a, b, slack), api.OK)
		counts[n]++
	}
	if len(counts) < 7 {
		t.Error("too few numbers of pairs:", counts)
	}
	for range 1000 {
		checkCompared(t, d.marks(20), d.marks(20), d.one(0, 1, 3, 10))
	}
}

func TestP8_7CheckPairs(t *testing.T) {
	lists := [2][]api.FlawMark{pair(), other()}
	both := [2][]api.FlawMark{three(), three()}
	for _, x := range []struct {
		what  string
		lists [2][]api.FlawMark
		slack int
		pairs [][2]int
		right int
		e     api.Errno
	}{
		{"no pairs", lists, 2, nil, 0, api.OK}, {"the first one", lists, 2, [][2]int{{0, 0}}, 1, api.OK}, {"the second one", lists, 2, [][2]int{{1, 0}}, 1, api.OK}, {"the same ones", both, 0, [][2]int{{0, 0}, {1, 1}, {2, 2}}, 3, api.OK}, {"pairs in no order", both, 1000, [][2]int{{2, 1}, {0, 2}, {1, 0}}, 3, api.OK},
		{"a second mark twice", lists, 2, [][2]int{{0, 0}, {1, 0}}, 0, api.ErrDouble}, {"a first mark twice", both, 1000, [][2]int{{0, 0}, {0, 1}}, 0, api.ErrDouble}, {"a pair twice", lists, 2, [][2]int{{0, 0}, {0, 0}}, 0, api.ErrDouble}, {"a mark twice, not alike", both, 0, [][2]int{{0, 0}, {1, 0}}, 0, api.ErrDouble}, {"a mark twice, not one after the other", both, 1000, [][2]int{{0, 0}, {1, 1}, {2, 0}}, 0, api.ErrDouble}, {"the numbers of a pair exchanged", both, 1000, [][2]int{{0, 1}, {1, 0}}, 2, api.OK},
		{"no first mark", lists, 2, [][2]int{{2, 0}}, 0, api.ErrMissing}, {"no second mark", lists, 2, [][2]int{{0, 1}}, 0, api.ErrMissing}, {"numbers below 0", lists, 2, [][2]int{{-1, 0}}, 0, api.ErrMissing}, {"a second number below 0", lists, 2, [][2]int{{0, -1}}, 0, api.ErrMissing}, {"great numbers", lists, 2, [][2]int{{greatest, smallest}}, 0, api.ErrMissing}, {"no mark behind a double one", lists, 2, [][2]int{{0, 0}, {2, 0}}, 0, api.ErrMissing}, {"a double one ahead of no mark", lists, 2, [][2]int{{0, 0}, {0, 0}, {2, 0}}, 0, api.ErrDouble},
		{"marks that are not alike", lists, 1, [][2]int{{0, 0}}, 0, api.ErrProof}, {"the second pair", both, 0, [][2]int{{0, 0}, {1, 2}}, 0, api.ErrProof}, {"a pair ahead of a double one", both, 0, [][2]int{{0, 1}, {0, 1}}, 0, api.ErrProof}, {"no marks at all", [2][]api.FlawMark{}, 0, [][2]int{{0, 0}}, 0, api.ErrMissing}, {"many pairs", both, 1000, make([][2]int, 100000), 0, api.ErrDouble},
	} {
		n, e := flaw.CheckPairs(x.lists, x.slack, x.pairs)
		want(t, "CheckPairs: "+x.what, n, e, x.right, x.e)
	}
}

func TestP8_7CheckCover(t *testing.T) {
	lists := [2][]api.FlawMark{pair(), other()}
	both := [2][]api.FlawMark{three(), three()}
	cover := func(first []int, second ...int) api.FlawCover { return api.FlawCover{First: first, Second: second} }
	for _, x := range []struct {
		what  string
		lists [2][]api.FlawMark
		slack int
		c     api.FlawCover
		right int
		e     api.Errno
	}{
		{"the sixth example", lists, 2, cover(nil, 0), 1, api.OK}, {"the other side", lists, 2, cover([]int{0, 1}), 2, api.OK}, {"all marks", lists, 2, cover([]int{0, 1}, 0), 3, api.OK}, {"nothing to cover", lists, 1, cover(nil), 0, api.OK}, {"more than nothing", lists, 1, cover([]int{1}), 1, api.OK}, {"both sides", both, 0, cover([]int{0, 2}, 1), 3, api.OK}, {"no marks at all", [2][]api.FlawMark{}, 0, cover(nil), 0, api.OK},
		{"no members", lists, 2, cover(nil), 0, api.ErrProof}, {"one that is not covered", lists, 2, cover([]int{0}), 0, api.ErrProof}, {"the other one", lists, 2, cover([]int{1}), 0, api.ErrProof}, {"a pair of both sides", both, 0, cover([]int{0}, 1), 0, api.ErrProof},
		{"no first mark", lists, 2, cover([]int{2}, 0), 0, api.ErrMissing}, {"no second mark", lists, 2, cover(nil, 1), 0, api.ErrMissing}, {"a number below 0", lists, 2, cover([]int{-1}, 0), 0, api.ErrMissing}, {"a great number", lists, 2, cover(nil, 0, greatest), 0, api.ErrMissing}, {"a small number", lists, 2, cover([]int{0, smallest}), 0, api.ErrMissing},
		{"a mark twice", lists, 2, cover([]int{0, 0}), 0, api.ErrOrder}, {"marks that fall", lists, 2, cover([]int{1, 0}), 0, api.ErrOrder}, {"a second mark twice", lists, 2, cover(nil, 0, 0), 0, api.ErrOrder}, {"an order ahead of no mark", both, 0, cover([]int{1, 1, 3}), 0, api.ErrOrder}, {"no mark ahead of an order", both, 0, cover([]int{3, 1, 1}), 0, api.ErrMissing}, {"an order ahead of the second ones", both, 0, cover([]int{1, 0}, 5), 0, api.ErrOrder}, {"second ones that fall", both, 0, cover([]int{0, 1, 2}, 2, 1), 0, api.ErrOrder},
	} {
		n, e := flaw.CheckCover(x.lists, x.slack, x.c)
		want(t, "CheckCover: "+x.what, n, e, x.right, x.e)
	}
	d := newDice(9)
	counts := map[api.Errno]int{}
	for range 3000 {
		a, b, slack := d.marks(6), d.marks(6), d.one(3, 30, 100)
		c := api.FlawCover{First: d.some(len(a)), Second: d.some(len(b))}
		right, f := 0, api.ErrProof
		if doesCover(a, b, slack, c) {
			right, f = len(c.First)+len(c.Second), api.OK
		}
		n, e := flaw.CheckCover([2][]api.FlawMark{a, b}, slack, c)
		want(t, "CheckCover", n, e, right, f)
		counts[e]++
	}
	if counts[api.OK] < 300 || counts[api.ErrProof] < 300 {
		t.Error("too few covers, or too many:", counts)
	}
}

// some rolls some of the numbers below a count.
func (d dice) some(count int) []int {
	var l []int
	for n := range count {
		if d.from(0, 3) > 0 {
			l = append(l, n)
		}
	}
	return l
}

func TestP8_7Agreement(t *testing.T) {
	for _, x := range []struct {
		a, b  []api.FlawMark
		slack int
		right api.Frac
		e     api.Errno
	}{
		{pair(), other(), 2, frac(1, 2), api.OK}, {pair(), other(), 1, frac(0, 1), api.OK}, {three(), three(), 0, frac(1, 1), api.OK}, {three(), three()[1:], 0, frac(2, 3), api.OK}, {three(), nil, 0, frac(0, 1), api.OK}, {nil, three(), 0, frac(0, 1), api.OK},
		{row(0, 1, 10, 11), row(10, 11, 20, 21), 0, frac(1, 3), api.OK}, {row(0, 1, 10, 11, 20, 21), row(10, 11, 20, 21, 30, 31), 0, frac(1, 2), api.OK}, {nil, nil, 0, api.Frac{}, api.ErrZero}, {[]api.FlawMark{}, nil, 100000, api.Frac{}, api.ErrZero},
	} {
		f, e := flaw.Agreement(x.a, x.b, x.slack)
		want(t, "Agreement", f, e, x.right, x.e)
	}
}

func TestP8_7Errors(t *testing.T) {
	check := func(a, b []api.FlawMark, slack int, right api.Errno) {
		t.Helper()
		pairs, c, e := flaw.Compared(a, b, slack)
		want(t, "the pairs of Compared", pairs, e, nil, right)
		want(t, "the cover of Compared", c, e, api.FlawCover{}, right)
		n, e := flaw.CheckPairs([2][]api.FlawMark{a, b}, slack, [][2]int{{99, 99}})
		want(t, "CheckPairs", n, e, 0, right)
		n, e = flaw.CheckCover([2][]api.FlawMark{a, b}, slack, api.FlawCover{First: []int{99}, Second: []int{5, 5}})
		want(t, "CheckCover", n, e, 0, right)
		f, e := flaw.Agreement(a, b, slack)
		want(t, "Agreement", f, e, api.Frac{}, right)
	}
	wrong := wrongLists()
	for n, x := range wrong {
		check(x.l, wrong[len(wrong)-1-n].l, -1, x.right)
		check(three(), x.l, -1, x.right)
		check(nil, x.l, 0, x.right)
	}
	for _, slack := range wrongSlacks() {
		check(three(), other(), slack, api.ErrRange)
		check(nil, nil, slack, api.ErrRange)
	}
}
