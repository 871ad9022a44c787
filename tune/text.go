package tune

import (
	"couplant/api"
	"couplant/base"
)

const mostDigits = 9 // of a number in a text

// FormatEvent returns the text of an event.
func FormatEvent(x api.TuneEvent) string {
	numbers := [3]int{x.Minute, x.Step, x.Warmth}
	return base.Spaced(numbers[:]...)
}

// ParseEvent returns the event of a text.
func ParseEvent(s string) (api.TuneEvent, api.Errno) {
	l, isForm := base.Numbers(s, mostDigits)
	if !isForm || len(l) != 3 {
		return api.TuneEvent{}, api.ErrSyntax
	}
	numbers := [3]int(l)
	return api.TuneEvent{Minute: numbers[0], Step: numbers[1], Warmth: numbers[2]}, api.OK
}
