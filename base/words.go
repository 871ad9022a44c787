package base

import "strings"

// Word is a word of a line, and the column of its first byte, from 1 on.
type Word struct {
	Text   string
	Column int
}

// End is the column behind the last byte of a word.
func (w Word) End() int { return w.Column + len(w.Text) }

// WordsOf is the words of a line: as many bytes as possible that are no blank and no tab; a line feed at its end belongs to none.
func WordsOf(line string) []Word {
	var words []Word
	begin := 0
	for n := range len(line) {
		switch {
		case isBetween(line[n]):
			begin = n + 1
		case begin == n:
			words = append(words, Word{Text: line[n : n+1], Column: n + 1})
		default:
			words[len(words)-1].Text = line[begin : n+1]
		}
	}
	return words
}

// LineOf is a line of words with single blanks between, and a line feed at its end.
func LineOf(words ...string) string { return strings.Join(words, " ") + "\n" }

// isBetween tells whether a byte stands between words.
func isBetween(b byte) bool { return b == ' ' || b == '\t' || b == '\n' }
