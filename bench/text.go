package bench

import (
	"strings"

	"couplant/api"
	"couplant/base"
)

const (
	timesWord   = "times"
	outWord     = "out"
	backWord    = "back"
	elementWord = "element"
	pulseWord   = "pulse"

	mostDigits = 13 // digits of a number
)

// kindWords are the words of flaws, by their kinds.
var kindWords = [...]string{api.BenchPore: "pore", api.BenchPlane: "plane"}

// FormatFlaw returns the text of a flaw, or "" if its kind is none.
func FormatFlaw(f api.BenchFlaw) string {
	switch f.Kind {
	case api.BenchPore:
		return lineOf(kindWords[f.Kind], f.From.X, f.From.Z, f.Amplitude)
	case api.BenchPlane:
		return lineOf(kindWords[f.Kind], f.From.X, f.From.Z, f.To.X, f.To.Z, f.Pieces, f.Amplitude, f.Tip)
	}
	return ""
}

// ParseFlaw returns the flaw with a text.
func ParseFlaw(s string) (api.BenchFlaw, api.Errno) {
	f, isText := flawOf(s)
	if e := base.FirstOf(base.Unless(isText, api.ErrSyntax), CheckFlaw(f)); e != api.OK {
		return api.BenchFlaw{}, e
	}
	return f, api.OK
}

// Print returns the text of a specimen.
func Print(s api.BenchSpecimen) (string, api.Errno) {
	if e := specimenError(s); e != api.OK {
		return "", e
	}
	a := s.Array
	lines := []string{
		lineOf(timesWord, a.Times.First, a.Times.Step),
		modeLine(outWord, a.Out),
		modeLine(backWord, a.Back),
	}
	for _, p := range a.Elements {
		lines = append(lines, lineOf(elementWord, p.X, p.Z))
	}
	lines = append(lines, lineOf(pulseWord, s.Pulse...))
	for _, f := range s.Flaws {
		lines = append(lines, FormatFlaw(f))
	}
	return strings.Join(lines, "\n") + "\n", api.OK
}

// Parse returns the specimen with a text, or the number of its first wrong line, and the error.
func Parse(t string) (api.BenchSpecimen, int, api.Errno) {
	if len(t) > api.MaxText {
		return api.BenchSpecimen{}, 0, api.ErrLarge
	}
	l := base.LinesOf(t)
	s, isText := readSpecimen(l)
	if !isText {
		return api.BenchSpecimen{}, l.Next(), api.ErrSyntax
	}
	if e := specimenError(s); e != api.OK {
		return api.BenchSpecimen{}, 0, e
	}
	return s, 0, api.OK
}

// readSpecimen reads a specimen, right or not, as far as the lines have their forms; it tells whether all have.
func readSpecimen(l *base.Lines) (api.BenchSpecimen, bool) {
	var s api.BenchSpecimen
	a := &s.Array
	isText := base.ReadOne(l, &a.Times, timesOf) &&
		base.ReadOne(l, &a.Out, outOf) &&
		base.ReadOne(l, &a.Back, backOf) &&
		base.ReadAll(l, &a.Elements, elementOf) &&
		base.ReadOne(l, &s.Pulse, pulseOf) &&
		base.ReadAll(l, &s.Flaws, flawOf)
	return s, isText && l.AtEnd()
}

// timesOf, and those below, are what a line tells, right or not, if it has their form.
func timesOf(line string) (api.Sampling, bool) {
	l, isForm := numbersOf(line, timesWord)
	if !isForm || len(l) != 2 {
		return api.Sampling{}, false
	}
	return api.Sampling{First: l[0], Step: l[1]}, true
}

func outOf(line string) (api.RayMode, bool) { return modeOf(line, outWord) }

func backOf(line string) (api.RayMode, bool) { return modeOf(line, backWord) }

func modeOf(line, word string) (api.RayMode, bool) {
	l, isForm := numbersOf(line, word)
	if !isForm || len(l) != 4 {
		return api.RayMode{}, false
	}
	return api.RayMode{Wedge: l[0], Metal: l[1], Skips: l[2], Thick: l[3]}, true
}

func elementOf(line string) (api.Spot, bool) {
	l, isForm := numbersOf(line, elementWord)
	if !isForm || len(l) != 2 {
		return api.Spot{}, false
	}
	return api.Spot{X: l[0], Z: l[1]}, true
}

func pulseOf(line string) ([]int, bool) {
	l, isForm := numbersOf(line, pulseWord)
	return l, isForm && len(l) > 0
}

func flawOf(line string) (api.BenchFlaw, bool) {
	for kind, word := range kindWords {
		l, isForm := numbersOf(line, word)
		switch {
		case isForm && kind == api.BenchPore && len(l) == 3:
			return api.BenchFlaw{From: api.Spot{X: l[0], Z: l[1]}, Amplitude: l[2]}, true
		case isForm && kind == api.BenchPlane && len(l) == 7:
			return api.BenchFlaw{
				Kind: kind, From: api.Spot{X: l[0], Z: l[1]}, To: api.Spot{X: l[2], Z: l[3]},
				Pieces: l[4], Amplitude: l[5], Tip: l[6],
			}, true
		}
	}
	return api.BenchFlaw{}, false
}

// lineOf is a word and numbers behind it.
func lineOf(word string, numbers ...int) string {
	return word + " " + base.Spaced(numbers...)
}

func modeLine(word string, m api.RayMode) string {
	return lineOf(word, m.Wedge, m.Metal, m.Skips, m.Thick)
}

// numbersOf is the numbers of a line behind its word, if it has this form.
func numbersOf(line, word string) ([]int, bool) {
	return base.NumbersBehind(word, line, mostDigits)
}
