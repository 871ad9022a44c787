package code

import (
	"strings"

	"couplant/api"
	"couplant/base"
)

// Parse returns the code with a text, or the mark of its first error, and this.
func Parse(t string) (api.Code, api.TextMark, api.Errno) {
	var c api.Code
	read := func(text string) (int, api.Errno) { return readLine(&c, text) }
	isComplete := func() bool { return c.Name != "" }
	if mark, e := base.ReadMarked(t, read, isComplete); e != api.OK {
		return api.Code{}, mark, e
	}
	return c, api.TextMark{}, api.OK
}

// line is the words of a line: the one that was read last, and the rest.
type line struct {
	base.Word
	rest []base.Word
}

// wrongWord stops the reader of a line at a word with an error.
type wrongWord struct {
	base.Word
	e api.Errno
}

// lastWord stops the reader of a line behind its last word, if there must be one more.
type lastWord struct{ base.Word }

// readLine reads what a line adds to a code, or returns the column of its first error, and this.
func readLine(c *api.Code, text string) (column int, e api.Errno) {
	defer func() {
		switch stop := recover().(type) {
		case wrongWord:
			column, e = stop.Column, stop.e
		case lastWord:
			column, e = stop.End(), api.ErrMissing
		}
	}()
	text, _, _ = strings.Cut(text, "#")
	l := line{rest: base.WordsOf(text)}
	switch {
	case l.isRead():
	case c.Name == "":
		c.Name = l.readName()
	default:
		l.readRow(c)
	}
	return 0, api.OK
}

// isRead tells whether all words have been read.
func (l *line) isRead() bool { return len(l.rest) == 0 }

// next reads a word.
func (l *line) next() string {
	if l.isRead() {
		panic(lastWord{l.Word})
	}
	l.Word, l.rest = l.rest[0], l.rest[1:]
	return l.Text
}

// stopIf stops the reader at the word that was read last, if this has an error.
func (l *line) stopIf(e api.Errno) {
	if e != api.OK {
		panic(wrongWord{l.Word, e})
	}
}

// readName reads the name of a code, and all of its line.
func (l *line) readName() string {
	l.stopIf(base.Unless(l.next() == codeWord, api.ErrSyntax))
	name := l.next()
	l.stopIf(base.NameError(name))
	if !l.isRead() {
		l.next()
		l.stopIf(api.ErrSyntax)
	}
	return name
}

// readRow reads an exception or a row.
func (l *line) readRow(c *api.Code) {
	list := &c.Rows
	switch l.next() {
	case exceptWord:
		l.stopIf(base.Unless(len(c.Rows) == 0, api.ErrOrder))
		list = &c.Except
	case rowWord:
	default:
		l.stopIf(api.ErrSyntax)
	}
	l.stopIf(base.Unless(len(*list) < api.MaxCodeRows, api.ErrLarge))
	decision := l.readDecision()
	*list = append(*list, api.CodeRow{Box: l.readBox(), Decision: decision})
}

// readDecision reads a decision.
func (l *line) readDecision() int {
	word := l.next()
	for decision, other := range decisionWords {
		if word == other {
			return decision
		}
	}
	l.stopIf(api.ErrSyntax)
	return 0
}

// readBox reads limits as long as there are words.
func (l *line) readBox() api.CodeBox {
	b := wholeBox()
	quantities, isNamed := quantitiesByWord(), map[int]bool{}
	for !l.isRead() {
		quantity, isOne := quantities[l.next()]
		l.stopIf(base.Unless(isOne, api.ErrSyntax))
		l.stopIf(base.Unless(!isNamed[quantity], api.ErrDouble))
		isNamed[quantity] = true
		b[quantity] = l.readRange(quantity)
	}
	return b
}

// quantitiesByWord is the quantities by their words.
func quantitiesByWord() map[string]int {
	quantities := map[string]int{}
	for quantity, word := range quantityWords {
		quantities[word] = quantity
	}
	return quantities
}

// readRange reads both ends of the range of a quantity.
func (l *line) readRange(quantity int) api.Range {
	lo := l.readNumber(quantity)
	hi := l.readNumber(quantity)
	l.stopIf(base.Unless(lo <= hi, api.ErrOrder))
	return api.Range{Lo: lo, Hi: hi}
}

// readNumber reads a number of a quantity.
func (l *line) readNumber(quantity int) int {
	n, isNumber := base.Number(l.next(), mostDigits)
	l.stopIf(base.Unless(isNumber && n >= 0, api.ErrSyntax))
	l.stopIf(numberError(n, quantity))
	return n
}
