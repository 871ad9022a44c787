package cover

import (
	"strings"

	"couplant/api"
	"couplant/base"
)

const (
	jointWord = "joint"
	thickWord = "thick"
	zoneWord  = "zone"
	faceWord  = "face"

	mostDigits = 9 // of a number in a text
)

// FormatSetup returns the text of a set-up.
func FormatSetup(s api.CoverSetup) string {
	return s.Name + " " + base.Spaced(
		s.At, s.Side, s.Legs,
		s.Least.Num, s.Least.Den, s.Most.Num, s.Most.Den, s.Tilt.Num, s.Tilt.Den,
	)
}

// ParseSetup returns the set-up with a text.
func ParseSetup(s string) (api.CoverSetup, api.Errno) {
	name, n, isForm := base.WordAndNumbers(s, mostDigits)
	if !isForm || len(n) != 9 {
		return api.CoverSetup{}, api.ErrSyntax
	}
	x := api.CoverSetup{
		Name: name, At: n[0], Side: n[1], Legs: n[2],
		Least: api.Frac{Num: n[3], Den: n[4]}, Most: api.Frac{Num: n[5], Den: n[6]}, Tilt: api.Frac{Num: n[7], Den: n[8]},
	}
	if e := CheckSetup(x); e != api.OK {
		return api.CoverSetup{}, e
	}
	return x, api.OK
}

// Print returns the text of a joint.
func Print(j api.CoverJoint) (string, api.Errno) {
	if e := jointError(j); e != api.OK {
		return "", e
	}
	lines := []string{base.LineOf(jointWord, j.Name, thickWord, base.Spaced(j.Thick), zoneWord, base.Spaced(j.Zone))}
	for _, f := range j.Faces {
		lines = append(lines, base.LineOf(faceWord, f.Name, base.Spaced(f.From.X, f.From.Z, f.To.X, f.To.Z)))
	}
	return strings.Join(lines, ""), api.OK
}

// Parse returns the joint with a text, or the mark of its first error, and this.
func Parse(t string) (api.CoverJoint, api.TextMark, api.Errno) {
	var j api.CoverJoint
	read := func(line string) (int, api.Errno) {
		f := readLine(&j, base.WordsOf(line))
		return f.column, f.e
	}
	isComplete := func() bool { return j.Name != "" }
	if mark, e := base.ReadMarked(t, read, isComplete); e != api.OK {
		return api.CoverJoint{}, mark, e
	}
	return j, api.TextMark{}, api.OK
}

// readLine reads what the words of a line say, if there are any; the first such line says the joint.
func readLine(j *api.CoverJoint, words []base.Word) fault {
	switch {
	case len(words) == 0:
		return fault{}
	case j.Name == "":
		return readJoint(j, words)
	}
	return readFace(j, words)
}

// readJoint reads a joint that has no faces yet.
func readJoint(j *api.CoverJoint, words []base.Word) fault {
	f := formFault(words,
		exactly(jointWord), base.NameError,
		exactly(thickWord), numberError,
		exactly(zoneWord), numberError,
	)
	if f.e != api.OK {
		return f
	}
	*j = api.CoverJoint{Name: words[1].Text, Thick: numberOf(words[3]), Zone: numberOf(words[5])}
	return firstFault(
		faultAt(words[3], thickError(j.Thick)),
		faultAt(words[5], zoneError(j.Zone)),
	)
}

// readFace reads one more face of a joint.
func readFace(j *api.CoverJoint, words []base.Word) fault {
	f := formFault(words,
		exactly(faceWord), base.NameError,
		numberError, numberError, numberError, numberError,
	)
	if f.e != api.OK {
		return f
	}
	from := api.Spot{X: numberOf(words[2]), Z: numberOf(words[3])}
	to := api.Spot{X: numberOf(words[4]), Z: numberOf(words[5])}
	n := len(j.Faces)
	j.Faces = append(j.Faces, api.CoverFace{Name: words[1].Text, From: from, To: to})
	return firstFault(
		faultAt(words[0], base.Unless(n < api.MaxCoverFaces, api.ErrLarge)),
		faultAt(words[1], base.ExistsError(j.Faces, n, nameOfFace)),
		faultAt(words[2], acrossError(from.X)),
		faultAt(words[3], depthError(from.Z, j.Thick)),
		faultAt(words[4], acrossError(to.X)),
		faultAt(words[5], depthError(to.Z, j.Thick)),
		faultAt(words[2], base.Unless(from != to, api.ErrZero)),
	)
}
