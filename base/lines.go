package base

import (
	"strings"

	"couplant/api"
)

// Lines reads a text line by line, each in the one form, or in one of the forms, that it may have there.
type Lines struct {
	rest string // what has not been read
	read int    // how many lines have been read
}

// LinesOf reads a text from its beginning on.
func LinesOf(text string) *Lines { return &Lines{rest: text} }

// AtEnd tells whether all of the text has been read.
func (l *Lines) AtEnd() bool { return l.rest == "" }

// Next is the number of the line that has not been read, from 1 on.
func (l *Lines) Next() int { return l.read + 1 }

// ReadOne reads the next line if it has a form, and a line feed at its end; it tells whether it has.
func ReadOne[T any](l *Lines, into *T, of func(line string) (T, bool)) bool {
	line, rest, hasEnd := strings.Cut(l.rest, "\n")
	value, isForm := of(line)
	if !hasEnd || !isForm {
		return false
	}
	*into = value
	l.rest, l.read = rest, l.read+1
	return true
}

// ReadAll reads the next lines as long as they have a form: there may be none, so that it never fails.
func ReadAll[T any](l *Lines, into *[]T, of func(line string) (T, bool)) bool {
	var value T
	for ReadOne(l, &value, of) {
		*into = append(*into, value)
	}
	return true
}

// ReadMarked reads a text line by line, with the line feeds: read returns the column of the first error in a line, and this. It returns the mark of the first error and this, or ErrMissing behind all lines unless the text is complete there.
func ReadMarked(text string, read func(line string) (int, api.Errno), isComplete func() bool) (api.TextMark, api.Errno) {
	if len(text) > api.MaxText {
		return api.TextMark{}, api.ErrLarge
	}
	lines := 0
	for line := range strings.Lines(text) {
		lines++
		if column, e := read(line); e != api.OK {
			return api.TextMark{Line: lines, Column: column}, e
		}
	}
	if !isComplete() {
		return api.TextMark{Line: lines + 1, Column: 1}, api.ErrMissing
	}
	return api.TextMark{}, api.OK
}
