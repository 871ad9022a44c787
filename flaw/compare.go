package flaw

import (
	"slices"

	"couplant/api"
	"couplant/base"
)

// alone stands for the partner of a mark that has none.
const alone = -1

// matching is right pairs of two lists, as many as possible.
type matching struct {
	firsts []int  // for each mark of the second list its partner in the first one
	lost   []bool // for each mark of the second list whether a search in vain has come to it
}

// Alike returns whether two marks are alike within a slack.
func Alike(a, b api.FlawMark, slack int) (bool, api.Errno) {
	if e := base.FirstOf(markError(a), markError(b), slackError(slack)); e != api.OK {
		return false, e
	}
	return areAlike(a, b, slack), api.OK
}

// Compared returns as many right pairs of two lists as possible, and a cover that proves it.
func Compared(a, b []api.FlawMark, slack int) ([][2]int, api.FlawCover, api.Errno) {
	if e := listsError(a, b, slack); e != api.OK {
		return nil, api.FlawCover{}, e
	}
	m := matched(a, b, slack)
	return m.pairs(), m.cover(), api.OK
}

// CheckPairs accepts right pairs of two lists, and returns how many there are.
func CheckPairs(lists [2][]api.FlawMark, slack int, pairs [][2]int) (int, api.Errno) {
	if e := listsError(lists[0], lists[1], slack); e != api.OK {
		return 0, e
	}
	_, e := base.FirstIn(len(pairs), func(n int) api.Errno {
		first, second := pairs[n][0], pairs[n][1]
		e := base.FirstOf(
			base.MissingError(first, len(lists[0])),
			base.MissingError(second, len(lists[1])),
		)
		if e != api.OK {
			return e
		}
		hasOne := func(p [2]int) bool { return p[0] == first || p[1] == second }
		return base.FirstOf(
			base.Unless(!slices.ContainsFunc(pairs[:n], hasOne), api.ErrDouble),
			base.Unless(areAlike(lists[0][first], lists[1][second], slack), api.ErrProof),
		)
	})
	if e != api.OK {
		return 0, e
	}
	return len(pairs), api.OK
}

// CheckCover accepts a cover of two lists, and returns how many members it has.
func CheckCover(lists [2][]api.FlawMark, slack int, c api.FlawCover) (int, api.Errno) {
	e := base.FirstOf(
		listsError(lists[0], lists[1], slack),
		base.NumbersError(c.First, len(lists[0])),
		base.NumbersError(c.Second, len(lists[1])),
	)
	if e != api.OK {
		return 0, e
	}
	for first, a := range lists[0] {
		for second, b := range lists[1] {
			isCovered := slices.Contains(c.First, first) || slices.Contains(c.Second, second)
			if areAlike(a, b, slack) && !isCovered {
				return 0, api.ErrProof
			}
		}
	}
	return len(c.First) + len(c.Second), api.OK
}

// Agreement returns how many pairs Compared has, by how many marks there are if both of a pair count as one.
func Agreement(a, b []api.FlawMark, slack int) (api.Frac, api.Errno) {
	e := base.FirstOf(
		listsError(a, b, slack),
		base.Unless(len(a)+len(b) > 0, api.ErrZero),
	)
	if e != api.OK {
		return api.Frac{}, e
	}
	pairs := len(matched(a, b, slack).pairs())
	return base.Lowest(pairs, len(a)+len(b)-pairs), api.OK
}

// areAlike is Alike of right marks and a right slack.
func areAlike(a, b api.FlawMark, slack int) bool {
	return gapOf(a.Along, b.Along) <= slack && gapOf(a.Depth, b.Depth) <= slack
}

// matched pairs the marks of two right lists. Each mark of the first one looks for a partner, and others that have one may change theirs.
func matched(a, b []api.FlawMark, slack int) matching {
	m := matching{firsts: slices.Repeat([]int{alone}, len(b)), lost: make([]bool, len(b))}
	for n := range a {
		// What a search in vain has come to leads to no partner later either.
		reached := slices.Clone(m.lost)
		var reach func(first int) bool
		reach = func(first int) bool {
			for second := range b {
				if reached[second] || !areAlike(a[first], b[second], slack) {
					continue
				}
				reached[second] = true
				if m.firsts[second] == alone || reach(m.firsts[second]) {
					m.firsts[second] = first
					return true
				}
			}
			return false
		}
		if !reach(n) {
			m.lost = reached
		}
	}
	return m
}

// pairs is the pairs, ascending by their first numbers.
func (m matching) pairs() [][2]int {
	var pairs [][2]int
	for second, first := range m.firsts {
		if first != alone {
			pairs = append(pairs, [2]int{first, second})
		}
	}
	slices.SortFunc(pairs, inOrder)
	return pairs
}

// cover has one mark of each pair. What is alike to a mark without a partner, or to the partner of one that is lost, is lost too.
func (m matching) cover() api.FlawCover {
	var c api.FlawCover
	for _, pair := range m.pairs() {
		if m.lost[pair[1]] {
			c.Second = append(c.Second, pair[1])
		} else {
			c.First = append(c.First, pair[0])
		}
	}
	slices.Sort(c.Second)
	return c
}
