package law

import (
	"strconv"
	"strings"

	"couplant/api"
	"couplant/base"
)

const (
	silentWord = "-" // the word of an element that does not send
	mostDigits = 9   // digits of a number
)

// FormatLaw returns the text of a law, whatever it is.
func FormatLaw(l api.DelayLaw) string {
	words := []string{strconv.Itoa(l.Clock)}
	for _, ticks := range l.Ticks {
		word := silentWord
		if ticks >= 0 {
			word = strconv.Itoa(ticks)
		}
		words = append(words, word)
	}
	return strings.Join(words, " ")
}

// ParseLaw returns the law with a text.
func ParseLaw(s string) (api.DelayLaw, api.Errno) {
	l, isText := lawOfText(s)
	if !isText {
		return api.DelayLaw{}, api.ErrSyntax
	}
	if e := lawError(l); e != api.OK {
		return api.DelayLaw{}, e
	}
	return l, api.OK
}

// lawOfText is the law with a text, right or not, if this is the text of a law.
func lawOfText(s string) (api.DelayLaw, bool) {
	words := strings.Split(s, " ")
	clock, isText := base.Number(words[0], mostDigits)
	l := api.DelayLaw{Clock: clock}
	for _, word := range words[1:] {
		ticks, isTicks := ticksOf(word)
		isText = isText && isTicks
		l.Ticks = append(l.Ticks, ticks)
	}
	return l, isText
}

// ticksOf reads the ticks of an element.
func ticksOf(word string) (int, bool) {
	if word == silentWord {
		return silent, true
	}
	ticks, isNumber := base.Number(word, mostDigits)
	return ticks, isNumber && ticks >= 0
}
