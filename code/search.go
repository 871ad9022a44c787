package code

import (
	"slices"

	"couplant/api"
)

// open stands for the decision of a mark that no row decides.
const open = api.DecisionRepeat + 1

// condition tells whether it holds for a mark, by what two codes decide of it.
type condition func(first, second int) bool

// query asks for a mark of a box for which a condition holds: for the one that costs least, of several ones for the least one.
type query struct {
	box     api.CodeBox
	holds   condition
	codes   [2]rows               // a code without rows leaves all open
	order   [api.CodeQuantity]int // of the quantities by which marks are compared
	weights api.CodeMark          // of the quantities: what it costs to be less by one than the greatest number in the box
}

// least asks for the least mark of a box for which a condition holds.
func least(box api.CodeBox, holds condition, first, second rows) query {
	q := query{box: box, holds: holds, codes: [2]rows{first, second}}
	for n := range q.order {
		q.order[n] = n
	}
	return q
}

// answer is the mark that is asked for, and its cost; it tells whether there is one.
func (q query) answer() (api.CodeMark, int, bool) {
	s := searchFor(q)
	f := s.bestFrom(state{rows: s.sure[api.CodeQuantity]})
	return f.mark, f.cost, f.isSome
}

// isSome tells whether there is a mark as it is asked for.
func (q query) isSome() bool {
	_, _, isSome := q.answer()
	return isSome
}

// search answers a query: it chooses numbers quantity by quantity, and goes on with the rows that have them. Many choices lead to the same rows, so that little is left to be looked at.
type search struct {
	query
	parts     [api.CodeQuantity][]part  // along each quantity, in the order
	sure      [api.CodeQuantity + 1]set // the rows that have all of the box along this quantity and those behind it
	decisions [open]set                 // the rows with each decision
	known     map[state]found
}

// part is a range of a quantity, and the rows that have it.
type part struct {
	api.Range
	rows set
}

// state is how many quantities are chosen, and the rows that have what is chosen.
type state struct {
	chosen int
	rows   set
}

// found is the best mark by the quantities that are not chosen, and its cost, if there is one.
type found struct {
	mark   api.CodeMark
	cost   int
	isSome bool
}

// searchFor is the search that answers a query, at its beginning.
func searchFor(q query) *search {
	s := &search{query: q, known: map[state]found{}}
	for code, l := range q.codes {
		for n, row := range l {
			s.decisions[row.Decision].add(code, n)
			s.sure[api.CodeQuantity].add(code, n)
		}
	}
	all := slices.Concat(q.codes[0], q.codes[1])
	for n, quantity := range slices.Backward(q.order[:]) {
		whole := q.box[quantity]
		s.sure[n] = both(s.sure[n+1], s.along(quantity, whole))
		for b := range all.cut(q.box, quantity) {
			s.parts[n] = append(s.parts[n], part{b[quantity], s.along(quantity, b[quantity])})
		}
	}
	return s
}

// along is the rows that have all of a range of a quantity.
func (s *search) along(quantity int, r api.Range) set {
	var having set
	for code, l := range s.codes {
		for n, row := range l {
			if isPart(r, row.Box[quantity]) {
				having.add(code, n)
			}
		}
	}
	return having
}

// bestFrom is what is found from a state on.
func (s *search) bestFrom(at state) found {
	at = s.cleared(at)
	may, must := s.outlook(at)
	switch {
	case !may:
		return found{}
	case must:
		return s.rest(at)
	}
	best, isKnown := s.known[at]
	if !isKnown {
		best = s.bestThrough(at)
		s.known[at] = best
	}
	return best
}

// bestThrough is what is found through the numbers of the next quantity.
func (s *search) bestThrough(at state) found {
	var best found
	quantity := s.order[at.chosen]
	for _, p := range s.parts[at.chosen] {
		f := s.bestFrom(state{at.chosen + 1, both(at.rows, p.rows)})
		if !f.isSome {
			continue
		}
		f.mark[quantity] = s.choice(quantity, p.Range)
		f.cost += s.weights[quantity] * (s.box[quantity].Hi - f.mark[quantity])
		// Of the same cost the one before is the lesser one, and none costs less than nothing.
		if !best.isSome || f.cost < best.cost {
			best = f
		}
		if best.cost == 0 {
			break
		}
	}
	return best
}

// rest is what is found where the condition holds for all marks.
func (s *search) rest(at state) found {
	f := found{isSome: true}
	for _, quantity := range s.order[at.chosen:] {
		f.mark[quantity] = s.choice(quantity, s.box[quantity])
	}
	return f
}

// choice is the best number of a range of a quantity.
func (s *search) choice(quantity int, r api.Range) int {
	if s.weights[quantity] > 0 {
		return r.Hi
	}
	return r.Lo
}

// cleared is a state without the rows that decide nothing, behind one that surely has the mark.
func (s *search) cleared(at state) state {
	for code, sure := range both(at.rows, s.sure[at.chosen]) {
		if sure != 0 {
			first := sure & -sure
			at.rows[code] &= first<<1 - 1
		}
	}
	return at
}

// outlook tells whether the condition may hold for a mark from a state on, and whether it must hold for all. Where all quantities are chosen, both are the same.
func (s *search) outlook(at state) (may, must bool) {
	must = true
	firsts, seconds := s.possible(0, at), s.possible(1, at)
	for first, isFirst := range firsts {
		for second, isSecond := range seconds {
			if isFirst && isSecond {
				holds := s.holds(first, second)
				may, must = may || holds, must && holds
			}
		}
	}
	return may, must
}

// possible tells of each decision whether a code may come to it from a state on.
func (s *search) possible(code int, at state) [open + 1]bool {
	var may [open + 1]bool
	for decision, l := range s.decisions {
		may[decision] = both(at.rows, l)[code] != 0
	}
	may[open] = both(at.rows, s.sure[at.chosen])[code] == 0
	return may
}

// set is rows of both codes, by bits at their numbers.
type set [2]uint32

// add adds a row of a code.
func (s *set) add(code, n int) { s[code] |= 1 << n }

// both is the rows that are in both of two sets.
func both(a, b set) set { return set{a[0] & b[0], a[1] & b[1]} }
