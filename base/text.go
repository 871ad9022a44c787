package base

import (
	"strconv"
	"strings"
)

// Number reads a number of so many digits at most; it tells whether a word is one.
func Number(word string, digits int) (int, bool) {
	n, err := strconv.Atoi(word)
	if err != nil || len(strings.TrimPrefix(word, "-")) > digits {
		return 0, false
	}
	// A number that is written in another way than its own has a zero in front, or a sign too many.
	if strconv.Itoa(n) != word {
		return 0, false
	}
	return n, true
}
