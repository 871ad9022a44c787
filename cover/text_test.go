package cover_test

import (
	"strings"
	"testing"

	"couplant/api"
	"couplant/cover"
)

func TestP7_6FormatSetup(t *testing.T) {
	for _, x := range []struct {
		s     api.CoverSetup
		right string
	}{
		{direct(), "a -1000 1 1 0 1 3 1 1 1"}, {skip(), "b 0 1 2 0 1 3 1 3 1"}, {api.CoverSetup{}, " 0 0 0 0 0 0 0 0 0"},
		{api.CoverSetup{Name: "a b\n\xff", At: smallest, Side: greatest, Legs: -3, Least: api.Frac{Num: -4, Den: 5}, Most: api.Frac{Num: 6, Den: -7}, Tilt: api.Frac{Num: 10, Den: 1234567890}}, "a b\n\xff -9223372036854775808 9223372036854775807 -3 -4 5 6 -7 10 1234567890"},
	} {
		want(t, "FormatSetup", cover.FormatSetup(x.s), api.OK, x.right, api.OK)
	}
}

func TestP7_6ParseSetup(t *testing.T) {
	for _, s := range []api.CoverSetup{direct(), skip(), {Name: "abc-DEF-0123", At: 20000, Side: -1, Legs: 2, Least: frac(99, 100), Most: frac(100, 99), Tilt: frac(0, 1)}} {
		got, e := cover.ParseSetup(cover.FormatSetup(s))
		want(t, "ParseSetup", got, e, s, api.OK)
	}
	for text, right := range map[string]api.Errno{
		"": api.ErrSyntax, "a": api.ErrSyntax, " ": api.ErrSyntax, "a ": api.ErrSyntax, "a -1000 1 1 0 1 3 1 1": api.ErrSyntax, "a -1000 1 1 0 1 3 1 1 1 1": api.ErrSyntax, "a -1000 1 1 0 1 3 1 1 1 ": api.ErrSyntax,
		" a -1000 1 1 0 1 3 1 1 1": api.ErrSyntax, "a  -1000 1 1 0 1 3 1 1 1": api.ErrSyntax, "a -1000 1 1 0 1 3 1 1 1\n": api.ErrSyntax, "a -1000\t1 1 0 1 3 1 1 1": api.ErrSyntax, "a\t-1000 1 1 0 1 3 1 1 1": api.ErrSyntax,
		"a\n -1000 1 1 0 1 3 1 1 1": api.ErrSyntax, "\n -1000 1 1 0 1 3 1 1 1": api.ErrSyntax, "a -1000 1 1 0 1 3 1 1 x": api.ErrSyntax, "a -1000 1 1 -0 1 3 1 1 1": api.ErrSyntax, "a -1000 1 1 00 1 3 1 1 1": api.ErrSyntax,
		"a -1000 +1 1 0 1 3 1 1 1": api.ErrSyntax, "a -1000 01 1 0 1 3 1 1 1": api.ErrSyntax, "a 1000000000 1 1 0 1 3 1 1 1": api.ErrSyntax, "a -1000000000 1 1 0 1 3 1 1 1": api.ErrSyntax, "a -1000 1 1 0 1 3 1 1 1000000000": api.ErrSyntax,
		"a b -1000 1 1 0 1 3 1 1": api.ErrSyntax, "a b -1000 1 1 0 1 3 1 1 1": api.ErrSyntax, "5\n5 1000000000 1 1 0 1 3 1 1 1": api.ErrSyntax,
		" -1000 1 1 0 1 3 1 1 1": api.ErrName, "a\tb -1000 1 1 0 1 3 1 1 1": api.ErrName, "5 -1000 1 1 0 1 3 1 1 1": api.ErrName, "\xff\x00 999999999 0 0 0 0 0 0 0 0": api.ErrName, "abcdefghijklm -1000 1 1 0 1 3 1 1 1": api.ErrName,
		"a 999999999 0 1 0 1 3 1 1 1": api.ErrRange, "a -999999999 0 1 0 1 3 1 1 1": api.ErrRange, "a -1000 0 1 0 1 3 1 1 1": api.ErrKind, "a -1000 1 3 0 0 3 1 1 1": api.ErrKind,
		"a -1000 1 1 0 2 3 1 1 1": api.ErrForm, "a -1000 1 1 0 1 6 2 1 1": api.ErrForm, "a -1000 1 1 0 1 3 1 2 2": api.ErrForm, "a -1000 1 1 -1 1 3 1 1 1": api.ErrRange, "a -1000 1 1 4 1 3 1 1 1": api.ErrOrder,
	} {
		s, e := cover.ParseSetup(text)
		want(t, "ParseSetup of "+shown(text), s, e, api.CoverSetup{}, right)
	}
	s, e := cover.ParseSetup(strings.Repeat("5 ", 100000))
	want(t, "ParseSetup of many numbers", s, e, api.CoverSetup{}, api.ErrSyntax)
}

func TestP7_6Print(t *testing.T) {
	for _, x := range []struct {
		j     api.CoverJoint
		right string
	}{
		{slant(), "joint v thick 1000 zone 0\nface f 0 1000 1000 0\n"}, {api.CoverJoint{Name: "Empty", Thick: 20000, Zone: 5}, "joint Empty thick 20000 zone 5\n"},
		{api.CoverJoint{Name: "v", Thick: 10, Zone: 1, Faces: []api.CoverFace{face(1, -20000, 10, 20000, 0), face(0, 0, 0, -1, 0)}}, "joint v thick 10 zone 1\nface g -20000 10 20000 0\nface f 0 0 -1 0\n"},
	} {
		text, e := cover.Print(x.j)
		want(t, "Print", text, e, x.right, api.OK)
	}
	for _, x := range wrongJoints() {
		text, e := cover.Print(x.j)
		want(t, "Print of a wrong joint", text, e, "", x.right)
	}
}

func TestP7_6Parse(t *testing.T) {
	for text, right := range map[string]api.CoverJoint{
		"joint v thick 1000 zone 0\nface f 0 1000 1000 0\n":                                 slant(),
		"joint v thick 1000 zone 0\nface f 0 1000 1000 0":                                   slant(),
		"\n \n\t\n \t joint\tv  thick\t 1000 zone 0 \t\n\n  \nface f\t\t0 1000 1000 0 \n\t": slant(),
		"joint v thick 1000 zone 0":                                                         {Name: "v", Thick: 1000},
		"joint joint thick 1 zone 20000\nface face 0 0 0 1\nface thick 0 1 -20000 1\n":      {Name: "joint", Thick: 1, Zone: 20000, Faces: []api.CoverFace{{Name: "face", To: api.Spot{Z: 1}}, {Name: "thick", From: api.Spot{Z: 1}, To: api.Spot{X: -20000, Z: 1}}}},
	} {
		j, m, e := cover.Parse(text)
		want(t, "Parse of "+shown(text), j, e, right, api.OK)
		want(t, "the mark of "+shown(text), m, e, api.TextMark{}, api.OK)
	}
	long := "joint v thick 1000 zone 0\nface f 0 1000 1000 0\n"
	long += strings.Repeat(" ", 60000-len(long))
	j, m, e := cover.Parse(long)
	want(t, "Parse of a long text", j, e, slant(), api.OK)
	want(t, "the mark of a long text", m, e, api.TextMark{}, api.OK)
	for _, text := range []string{long + " ", long + "x", strings.Repeat("\n", 60001), strings.Repeat("x", 100000)} {
		j, m, e = cover.Parse(text)
		want(t, "Parse of a text too long", j, e, api.CoverJoint{}, api.ErrLarge)
		want(t, "the mark of a text too long", m, e, api.TextMark{}, api.ErrLarge)
	}
}

// TestP7_6Marks has an error in each place of a line, and tells where it is.
func TestP7_6Marks(t *testing.T) {
	const joint, first = "joint v thick 1000 zone 0\n", "face f 0 1000 1000 0\n"
	many := joint
	for n := range 12 {
		many += "face " + "abcdefghijkl"[n:n+1] + " 0 1 2 3\n"
	}
	for _, x := range []struct {
		text         string
		line, column int
		right        api.Errno
	}{
		{"", 1, 1, api.ErrMissing}, {"\n", 2, 1, api.ErrMissing}, {" ", 2, 1, api.ErrMissing}, {"\t\n ", 3, 1, api.ErrMissing}, {"\n\n\n", 4, 1, api.ErrMissing}, {strings.Repeat("\n", 60000), 60001, 1, api.ErrMissing},
		{"x", 1, 1, api.ErrSyntax}, {"  join v thick 0 zone 0", 1, 3, api.ErrSyntax}, {"\n\tface f 0 1 2 3", 2, 2, api.ErrSyntax}, {"Joint v", 1, 1, api.ErrSyntax}, {"joint\r v", 1, 1, api.ErrSyntax}, {"joints v", 1, 1, api.ErrSyntax}, {"#", 1, 1, api.ErrSyntax},
		{"joint", 1, 6, api.ErrMissing}, {"joint \t ", 1, 6, api.ErrMissing}, {"\n  joint\n", 2, 8, api.ErrMissing}, {"joint 5", 1, 7, api.ErrName}, {"joint  a_", 1, 8, api.ErrName}, {"joint abcdefghijklm thick", 1, 7, api.ErrName},
		{"joint v", 1, 8, api.ErrMissing}, {"joint v thic", 1, 9, api.ErrSyntax}, {"joint v zone 5 thick 5", 1, 9, api.ErrSyntax}, {"joint v thick", 1, 14, api.ErrMissing}, {"joint v thick x", 1, 15, api.ErrSyntax},
		{"joint v thick -", 1, 15, api.ErrSyntax}, {"joint v thick -0", 1, 15, api.ErrSyntax}, {"joint v thick 05", 1, 15, api.ErrSyntax}, {"joint v thick +5", 1, 15, api.ErrSyntax}, {"joint v thick 1000000000", 1, 15, api.ErrSyntax}, {"joint v thick -1000000000 x", 1, 15, api.ErrSyntax},
		{"joint v thick 0", 1, 16, api.ErrMissing}, {"joint v thick 0 x", 1, 17, api.ErrSyntax}, {"joint v thick 0 zone", 1, 21, api.ErrMissing}, {"joint v thick 0 zone x", 1, 22, api.ErrSyntax}, {"joint v thick 0 zone 0 0", 1, 24, api.ErrSyntax}, {"joint v thick 0 zone 0 \t\x00 0", 1, 25, api.ErrSyntax},
		{"joint v thick 0 zone 0\n", 1, 15, api.ErrRange}, {"joint v thick 20001 zone -1\n", 1, 15, api.ErrRange}, {"joint v thick -5 zone 0\n", 1, 15, api.ErrRange}, {"joint v thick 999999999 zone 0\nx", 1, 15, api.ErrRange},
		{"joint v thick 5 zone -1", 1, 22, api.ErrRange}, {"joint v thick 5 zone 20001\n\n", 1, 22, api.ErrRange}, {"joint v thick 5 zone -999999999", 1, 22, api.ErrRange},
		{joint + "x", 2, 1, api.ErrSyntax}, {joint + joint, 2, 1, api.ErrSyntax}, {joint + "\n \n  faces", 4, 3, api.ErrSyntax}, {joint + "face", 2, 5, api.ErrMissing}, {joint + "face \n", 2, 5, api.ErrMissing}, {joint + "face 5 x", 2, 6, api.ErrName},
		{joint + "face f", 2, 7, api.ErrMissing}, {joint + "face f x", 2, 8, api.ErrSyntax}, {joint + "face f 99999", 2, 13, api.ErrMissing}, {joint + "face f 99999 x", 2, 14, api.ErrSyntax}, {joint + "face f 99999 1", 2, 15, api.ErrMissing}, {joint + "face f 99999 1 x", 2, 16, api.ErrSyntax},
		{joint + "face f 99999 1 1", 2, 17, api.ErrMissing}, {joint + "face f 99999 1 1 x", 2, 18, api.ErrSyntax}, {joint + "face f 99999 1 1 1 \n", 2, 8, api.ErrRange}, {joint + "face f 99999 1 1 1 1\n", 2, 20, api.ErrSyntax}, {joint + "face f 99999 1 1 1 x 5 6\n", 2, 20, api.ErrSyntax},
		{joint + "face f 20001 -1 20001 -1", 2, 8, api.ErrRange}, {joint + "face f -20001 -1 20001 -1", 2, 8, api.ErrRange}, {joint + "face f 20000 -1 20001 -1", 2, 14, api.ErrRange}, {joint + "face f 20000 1001 20001 -1", 2, 14, api.ErrRange},
		{joint + "face f 20000 1000 20001 -1", 2, 19, api.ErrRange}, {joint + "face f 20000 1000 -20001 -1", 2, 19, api.ErrRange}, {joint + "face f 20000 1000 -20000 -1", 2, 26, api.ErrRange}, {joint + "face f 20000 1000 -20000 1001", 2, 26, api.ErrRange}, {joint + "face f  5 6 5 6", 2, 9, api.ErrZero}, {joint + "face f  -20001 1 -20001 1", 2, 9, api.ErrRange},
		{joint + first + "face f 99999 1 1 1", 3, 6, api.ErrExists}, {joint + first + "face g 5 6 5 6", 3, 8, api.ErrZero}, {joint + first + "face  f 5 6 5 6 7", 3, 17, api.ErrSyntax}, {joint + first + "face f 5 6 5", 3, 13, api.ErrMissing}, {joint + first + "joint w thick 5 zone 5", 3, 1, api.ErrSyntax},
		{many + " \tface m 0 1 2 3", 14, 3, api.ErrLarge}, {many + "\nface a 0 1 2 99999", 15, 1, api.ErrLarge}, {many + "face a 0 1 2", 14, 13, api.ErrMissing}, {many + "face 5 0 1 2", 14, 6, api.ErrName}, {many + "x", 14, 1, api.ErrSyntax},
		{"\xff\xfe", 1, 1, api.ErrSyntax}, {"joint\u00a0v", 1, 1, api.ErrSyntax}, {"joint v\vthick 5 zone 5", 1, 7, api.ErrName}, {joint + "face f 1 2 3 4\r\n", 2, 14, api.ErrSyntax},
	} {
		j, m, e := cover.Parse(x.text)
		want(t, "Parse of "+shown(x.text), j, e, api.CoverJoint{}, x.right)
		want(t, "the mark of "+shown(x.text), m, e, api.TextMark{Line: x.line, Column: x.column}, x.right)
	}
	j, m, e := cover.Parse(many + "\n")
	want(t, "Parse of the most faces", len(j.Faces), e, 12, api.OK)
	want(t, "the mark of the most faces", m, e, api.TextMark{}, api.OK)
}
