package base

import (
	"strconv"
	"strings"
)

// Number reads a number of so many digits at most; it tells whether a word is one.
func Number(word string, digits int) (int, bool) {
	n, err := strconv.Atoi(word)
	if err != nil || len(strings.TrimPrefix(word, "-")) > digits {
		return 0, false
	}
	// A number that is written in another way than its own has a zero in front, or a sign too many.
	if strconv.Itoa(n) != word {
		return 0, false
	}
	return n, true
}

// Numbers reads numbers with single blanks between; it tells whether a text has this form.
func Numbers(text string, digits int) ([]int, bool) {
	var numbers []int
	for _, word := range strings.Split(text, " ") {
		n, isNumber := Number(word, digits)
		if !isNumber {
			return nil, false
		}
		numbers = append(numbers, n)
	}
	return numbers, true
}

// NumbersBehind reads the numbers, or none, behind a word; it tells whether a text has this form.
func NumbersBehind(word, text string, digits int) ([]int, bool) {
	first, rest, hasRest := strings.Cut(text, " ")
	switch {
	case first != word:
		return nil, false
	case !hasRest:
		return nil, true
	}
	return Numbers(rest, digits)
}

// Spaced is the text of numbers, with single blanks between.
func Spaced(numbers ...int) string {
	var words []string
	for _, n := range numbers {
		words = append(words, strconv.Itoa(n))
	}
	return strings.Join(words, " ")
}
