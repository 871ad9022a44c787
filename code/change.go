package code

import (
	"slices"

	"couplant/api"
	"couplant/base"
)

// Differs returns the least mark at which two codes differ.
func Differs(a, b api.Code) (api.CodeMark, api.Errno) {
	if e := codesError(a, b); e != api.OK {
		return api.CodeMark{}, e
	}
	m, _, isSome := least(wholeBox(), differ, numberedOf(a).rows, numberedOf(b).rows).answer()
	return m, base.Unless(isSome, api.ErrNone)
}

// Changed returns whether two codes differ at the marks of a box.
func Changed(a, b api.Code, box api.CodeBox) (int, api.Errno) {
	if e := base.FirstOf(codesError(a, b), CheckBox(box)); e != api.OK {
		return 0, e
	}
	first, second := numberedOf(a).rows, numberedOf(b).rows
	return answerOf(
		least(box, differ, first, second).isSome(),
		least(box, agree, first, second).isSome(),
	), api.OK
}

// Amended returns the code with exceptions ahead of its own ones.
func Amended(c api.Code, l []api.CodeRow) (api.Code, api.Errno) {
	e := base.FirstOf(
		codeError(c),
		rowsError(l),
		base.Unless(len(l)+len(c.Except) <= api.MaxCodeRows, api.ErrFull),
	)
	if e != api.OK {
		return api.Code{}, e
	}
	return api.Code{
		Name:   c.Name,
		Except: slices.Concat(l, c.Except),
		Rows:   slices.Clone(c.Rows),
	}, api.OK
}

// LeastChange returns the mark that is accepted, and costs least, of those with lesser height, length and level, and its cost.
func LeastChange(c api.Code, w api.CodeWish) (api.CodeMark, int, api.Errno) {
	if e := base.FirstOf(codeError(c), CheckMark(w.Mark), weightsError(w.Weights)); e != api.OK {
		return api.CodeMark{}, 0, e
	}
	lesser := boxOf(w.Mark)
	for quantity := api.CodeHeight; quantity <= api.CodeLevel; quantity++ {
		lesser[quantity].Lo = 0
	}
	q := least(lesser, isAccepted, numberedOf(c).rows, nil)
	copy(q.weights[api.CodeHeight:], w.Weights[:])
	m, cost, isSome := q.answer()
	return m, cost, base.Unless(isSome, api.ErrNone)
}

// FirstRise returns the least mark that has a rise of a quantity, and the least greater number with which it is accepted.
func FirstRise(c api.Code, quantity int) (api.CodeMark, int, api.Errno) {
	if e := base.FirstOf(codeError(c), quantityError(quantity)); e != api.OK {
		return api.CodeMark{}, 0, e
	}
	rises := numberedOf(c).rises(quantity)
	if len(rises) == 0 {
		return api.CodeMark{}, 0, api.ErrNone
	}
	first := slices.MinFunc(rises, func(a, b rise) int { return inOrder(a.mark, b.mark) })
	return first.mark, first.greater, api.OK
}

// rise is a mark that has one, and the least greater number.
type rise struct {
	mark    api.CodeMark
	greater int
}

// rises is the rises of a quantity of the least mark in each part along it, if it has one. The least mark of all is among them, as the rows have all of a part, or nothing.
func (r rows) rises(quantity int) []rise {
	var l []rise
	for b := range r.cut(wholeBox(), quantity) {
		if b[quantity].Hi == greatestOf[quantity] {
			break // No number is greater.
		}
		m, _, isSome := r.riseFrom(b[quantity], quantity).answer()
		if isSome {
			greater := m[quantity]
			m[quantity] = b[quantity].Lo
			l = append(l, rise{m, greater})
		}
	}
	return l
}

// riseFrom asks for the least mark that is accepted with a number of a quantity behind a part of it, and not with one in the part.
func (r rows) riseFrom(part api.Range, quantity int) query {
	behind := wholeBox()
	whole := behind[quantity]
	behind[quantity].Lo = part.Hi + 1
	var here rows
	for _, row := range r {
		if isPart(part, row.Box[quantity]) {
			row.Box[quantity] = whole
			here = append(here, row)
		}
	}
	q := least(behind, rose, here, r)
	// The mark is to be the least one, and only then the number.
	copy(q.order[quantity:], q.order[quantity+1:])
	q.order[api.CodeQuantity-1] = quantity
	return q
}

// differ, agree and rose are conditions for two codes.
func differ(first, second int) bool { return first != second }

func agree(first, second int) bool { return first == second }

func rose(first, second int) bool {
	return first != api.DecisionAccept && second == api.DecisionAccept
}
