package code

import (
	"slices"
	"strings"

	"couplant/api"
	"couplant/base"
)

const (
	codeWord   = "code"
	exceptWord = "except"
	rowWord    = "row"

	mostDigits = 6 // of a number in a text
)

// quantityWords are the words of the quantities.
var quantityWords = [...]string{
	api.CodeKind:   "kind",
	api.CodeThick:  "thick",
	api.CodeDepth:  "depth",
	api.CodeHeight: "height",
	api.CodeLength: "length",
	api.CodeLevel:  "level",
}

// decisionWords are the words of the decisions.
var decisionWords = [...]string{
	api.DecisionAccept: "accept",
	api.DecisionReject: "reject",
	api.DecisionRepeat: "repeat",
}

// FormatMark returns the text of a mark.
func FormatMark(m api.CodeMark) string { return base.Spaced(m[:]...) }

// ParseMark returns the mark with a text.
func ParseMark(s string) (api.CodeMark, api.Errno) {
	l, isForm := base.Numbers(s, mostDigits)
	isNegative := func(n int) bool { return n < 0 }
	if !isForm || len(l) != api.CodeQuantity || slices.ContainsFunc(l, isNegative) {
		return api.CodeMark{}, api.ErrSyntax
	}
	m := api.CodeMark(l)
	if e := CheckMark(m); e != api.OK {
		return api.CodeMark{}, e
	}
	return m, api.OK
}

// Print returns the text of a code.
func Print(c api.Code) (string, api.Errno) {
	if e := codeError(c); e != api.OK {
		return "", e
	}
	lines := []string{base.LineOf(codeWord, c.Name)}
	for _, row := range c.Except {
		lines = append(lines, lineOf(exceptWord, row))
	}
	for _, row := range c.Rows {
		lines = append(lines, lineOf(rowWord, row))
	}
	return strings.Join(lines, ""), api.OK
}

// lineOf is the line of an exception or a row, which has this word in front.
func lineOf(word string, row api.CodeRow) string {
	words := []string{word, decisionWords[row.Decision]}
	for quantity, whole := range wholeBox() {
		if limit := row.Box[quantity]; limit != whole {
			words = append(words, quantityWords[quantity], base.Spaced(limit.Lo, limit.Hi))
		}
	}
	return base.LineOf(words...)
}
