package code

import (
	"slices"

	"couplant/api"
)

// greatestOf is the greatest numbers of the quantities.
var greatestOf = [...]int{
	api.CodeKind:   api.MaxCodeKind,
	api.CodeThick:  api.MaxCodePlace,
	api.CodeDepth:  api.MaxCodePlace,
	api.CodeHeight: api.MaxCodePlace,
	api.CodeLength: api.MaxCodeLength,
	api.CodeLevel:  api.MaxCodeLevel,
}

// wholeBox is the box with all marks.
func wholeBox() api.CodeBox {
	var b api.CodeBox
	for quantity, greatest := range greatestOf {
		b[quantity].Hi = greatest
	}
	return b
}

// boxOf is the box with one mark alone.
func boxOf(m api.CodeMark) api.CodeBox {
	var b api.CodeBox
	for quantity, number := range m {
		b[quantity] = api.Range{Lo: number, Hi: number}
	}
	return b
}

// has tells whether a box has a mark.
func has(b api.CodeBox, m api.CodeMark) bool {
	_, isSome := common(b, boxOf(m))
	return isSome
}

// common is the least mark that two boxes have in common; it tells whether there is one.
func common(a, b api.CodeBox) (api.CodeMark, bool) {
	var m api.CodeMark
	for quantity := range m {
		m[quantity] = max(a[quantity].Lo, b[quantity].Lo)
		if m[quantity] > min(a[quantity].Hi, b[quantity].Hi) {
			return api.CodeMark{}, false
		}
	}
	return m, true
}

// isPart tells whether a range lies within another one.
func isPart(r, other api.Range) bool { return other.Lo <= r.Lo && r.Hi <= other.Hi }

// inOrder compares two marks.
func inOrder(a, b api.CodeMark) int { return slices.Compare(a[:], b[:]) }
