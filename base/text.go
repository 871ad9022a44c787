package base

import (
	"strconv"
	"strings"

	"couplant/api"
)

// isName tells whether a word is a name.
func isName(word string) bool {
	for n := range len(word) {
		b := word[n]
		if !isLetter(b) && (n == 0 || !isDigit(b) && b != '-') {
			return false
		}
	}
	return Within(len(word), 1, api.MaxName)
}

// isLetter tells whether a byte is a letter.
func isLetter(b byte) bool { return 'A' <= b && b <= 'Z' || 'a' <= b && b <= 'z' }

// isDigit tells whether a byte is a digit.
func isDigit(b byte) bool { return '0' <= b && b <= '9' }

// Number reads a number of so many digits at most; it tells whether a word is one.
func Number(word string, digits int) (int, bool) {
	n, err := strconv.Atoi(word)
	if err != nil || len(strings.TrimPrefix(word, "-")) > digits {
		return 0, false
	}
	// A number that is written in another way than its own has a zero in front, or a sign too many.
	if strconv.Itoa(n) != word {
		return 0, false
	}
	return n, true
}

// Numbers reads numbers with single blanks between; it tells whether a text has this form.
func Numbers(text string, digits int) ([]int, bool) {
	var numbers []int
	for _, word := range strings.Split(text, " ") {
		n, isNumber := Number(word, digits)
		if !isNumber {
			return nil, false
		}
		numbers = append(numbers, n)
	}
	return numbers, true
}

// NumbersBehind reads the numbers, or none, behind a word; it tells whether a text has this form.
func NumbersBehind(word, text string, digits int) ([]int, bool) {
	first, rest, hasRest := strings.Cut(text, " ")
	switch {
	case first != word:
		return nil, false
	case !hasRest:
		return nil, true
	}
	return Numbers(rest, digits)
}

// WordAndNumbers reads a word, which is any bytes but blanks and line feeds, or none, and the numbers behind it; it tells whether a text has this form.
func WordAndNumbers(text string, digits int) (string, []int, bool) {
	word, rest, _ := strings.Cut(text, " ")
	numbers, isForm := Numbers(rest, digits)
	if !isForm || strings.Contains(word, "\n") {
		return "", nil, false
	}
	return word, numbers, true
}

// Spaced is the text of numbers, with single blanks between.
func Spaced(numbers ...int) string {
	var words []string
	for _, n := range numbers {
		words = append(words, strconv.Itoa(n))
	}
	return strings.Join(words, " ")
}
