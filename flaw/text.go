package flaw

import (
	"couplant/api"
	"couplant/base"
)

const mostDigits = 10 // of a number in a text

// FormatMark returns the text of a mark.
func FormatMark(m api.FlawMark) string {
	return m.Name + " " + base.Spaced(m.Along.Lo, m.Along.Hi, m.Depth.Lo, m.Depth.Hi, m.Level)
}

// ParseMark returns the mark with a text.
func ParseMark(s string) (api.FlawMark, api.Errno) {
	name, n, isForm := base.WordAndNumbers(s, mostDigits)
	if !isForm || len(n) != 5 {
		return api.FlawMark{}, api.ErrSyntax
	}
	m := api.FlawMark{
		Name:  name,
		Along: api.Range{Lo: n[0], Hi: n[1]},
		Depth: api.Range{Lo: n[2], Hi: n[3]},
		Level: n[4],
	}
	if e := markError(m); e != api.OK {
		return api.FlawMark{}, e
	}
	return m, api.OK
}
