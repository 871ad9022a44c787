package focus_test

import (
	"slices"
	"strings"
	"testing"

	"couplant/api"
	"couplant/focus"
)

// oneText is the chapter's example, twoText has all kinds of numbers.
const (
	oneText = "grid 0 400 2 1 50\n1300 0\n"
	twoText = "grid -60 300 3 2 70\n0 1 2\n1000000000000000 10 25\n"
)

func oneGrid() api.FocusGrid {
	return api.FocusGrid{From: api.Spot{Z: 400}, Columns: 2, Rows: 1, Step: 50}
}

func twoPowers() []int { return []int{0, 1, 2, 1000000000000000, 10, 25} }

func TestP5_7PrintPowers(t *testing.T) {
	s, e := focus.PrintPowers(oneGrid(), []int{1300, 0})
	want(t, "PrintPowers", s, e, oneText, api.OK)
	s, e = focus.PrintPowers(two().Grid, twoPowers())
	want(t, "PrintPowers of two", s, e, twoText, api.OK)
	s, e = focus.PrintPowers(api.FocusGrid{From: api.Spot{X: -5, Z: -7}, Columns: 1, Rows: 3, Step: 10000}, []int{1, 2, 3})
	want(t, "PrintPowers of a column", s, e, "grid -5 -7 1 3 10000\n1\n2\n3\n", api.OK)
	for _, x := range wrongGrids() {
		for _, powers := range [][]int{{1, 2, 3, 4, 5, 6}, {-1}, nil} {
			s, e := focus.PrintPowers(x.g, powers)
			want(t, "PrintPowers of a wrong grid", s, e, "", x.right)
		}
	}
	for _, x := range wrongPowersOfTwo() {
		s, e := focus.PrintPowers(two().Grid, x.powers)
		want(t, "PrintPowers of wrong powers", s, e, "", x.right)
	}
}

// wantParse holds all four results of ParsePowers against the right ones.
func wantParse(t *testing.T, text string, g api.FocusGrid, powers []int, line int, f api.Errno) {
	t.Helper()
	got, l, n, e := focus.ParsePowers(text)
	want(t, "the grid of "+shown(text), got, e, g, f)
	want(t, "the powers of "+shown(text), l, e, powers, f)
	want(t, "the line of "+shown(text), n, e, line, f)
}

func TestP5_7ParsePowers(t *testing.T) {
	wantParse(t, oneText, oneGrid(), []int{1300, 0}, 0, api.OK)
	wantParse(t, twoText, two().Grid, twoPowers(), 0, api.OK)
	wide := api.FocusGrid{From: api.Spot{X: -100000, Z: -100000}, Columns: 40, Rows: 40, Step: 5128}
	line := strings.TrimSpace(strings.Repeat("1000000000000000 ", 40)) + "\n"
	wantParse(t, "grid -100000 -100000 40 40 5128\n"+strings.Repeat(line, 40), wide, slices.Repeat([]int{api.MaxPower}, 1600), 0, api.OK)
}

// TestP5_7ParseLines has a wrong line each, in the place of each line, and behind it, and lines that are not there.
func TestP5_7ParseLines(t *testing.T) {
	wrong := func(text string, line int) {
		t.Helper()
		wantParse(t, text, api.FocusGrid{}, nil, line, api.ErrSyntax)
	}
	lines := strings.SplitAfter(strings.TrimSuffix(twoText, "\n"), "\n")
	lines[2] += "\n"
	for n, line := range lines {
		before, behind := strings.Join(lines[:n], ""), strings.Join(lines[n+1:], "")
		bare := strings.TrimSuffix(line, "\n")
		short, _, _ := strings.Cut(bare, " ")
		cut := bare[:strings.LastIndex(bare, " ")]
		for _, bad := range []string{
			"\n", "x\n", " \n", " " + line, bare + " \n", bare + "\r\n", bare + " x\n", bare + " 5\n", short + "\n", cut + "\n", "\n" + line, "x" + line,
			cut + "  5\n", cut + " 05\n", cut + " -0\n", cut + " +5\n", cut + " 00\n", cut + " 5.0\n", cut + " 1e1\n", cut + " x\n", cut + " -\n", cut + " --5\n", cut + " 0x5\n", cut + " 1_0\n", cut + "\t5\n", cut + " 5 \n", cut + " 5\t\n",
			cut + " 1234567890123456789\n", cut + " -1234567890123456789\n", cut + " 99999999999999999999999\n", cut + " \xff\n", cut + " \x00\n", cut + " ٣\n", cut + " −5\n",
		} {
			wrong(before+bad+behind, n+1)
		}
		wrong(before+bare, n+1)
		wrong(before, n+1)
		wrong(before+"x\ny\nz\n", n+1)
	}
	for _, grid := range []string{"Grid 0 400 2 1 50", "grids 0 400 2 1 50", "gri 0 400 2 1 50", "0 400 2 1 50", "grid", "grid ", "grid 0 400 2 1", "grid 0 400 2 1 50 1", "grid 0 400 0 1 50", "grid 0 400 2 0 50", "grid 0 400 41 1 50", "grid 0 400 2 41 50", "grid 0 400 -1 1 50", "grid 0 400 2 -1 50", "grid 100001 400 41 1 50", "grid 0 400 999999999999999999 999999999999999999 50", "grid 0 400 02 1 50"} {
		wrong(grid+"\n1300 0\n", 1)
		wrong(grid+"\n", 1)
	}
	wrong(twoText+"\n", 4)
	wrong(twoText+"0 1 2\n", 4)
	wrong(twoText+"x", 4)
	wrong(twoText+" ", 4)
	wrong(twoText+"\x00\n", 4)
	wrong(oneText+oneText, 3)
	wrong("grid 0 400 2 2 50\n1 2\n", 3)
	wrong("grid 0 400 2 2 50\n1 2\n3\n4\n", 3)
	wrong("grid 0 400 2 1 50\n1300\n0\n", 2)
	wrong("grid 0 400 1 2 50\n1300 0\n", 2)
	wrong("grid 0 400 40 40 50\n", 2)
	// Whatever is wrong with the numbers of lines ahead.
	wrong("grid 100001 400 2 1 0\n-1300 -1\nx\n", 3)
	wrong("grid 0 400 2 2 50\n-1 1\nx\n", 3)
}

// TestP5_7ParseErrors has texts whose lines have their forms, of grids and powers that are not right: beside the error stands 0.
func TestP5_7ParseErrors(t *testing.T) {
	for _, x := range []struct {
		text  string
		right api.Errno
	}{
		{"grid 100001 400 2 1 50\n1300 0\n", api.ErrRange},
		{"grid 0 -100001 2 1 50\n1300 0\n", api.ErrRange},
		{"grid 999999999999999999 400 2 1 50\n1300 0\n", api.ErrRange},
		{"grid -999999999999999999 400 2 1 50\n1300 0\n", api.ErrRange},
		{"grid 0 400 2 1 0\n1300 0\n", api.ErrRange},
		{"grid 0 400 2 1 -5\n1300 0\n", api.ErrRange},
		{"grid 0 400 2 1 10001\n1300 0\n", api.ErrRange},
		{"grid 99951 400 2 1 50\n1300 0\n", api.ErrLarge},
		{"grid 0 99951 1 2 50\n1300\n0\n", api.ErrLarge},
		{"grid 99951 400 2 1 50\n-1300 0\n", api.ErrLarge},
		{"grid 0 400 2 1 50\n1300 -1\n", api.ErrRange},
		{"grid 0 400 2 1 50\n1000000000000001 0\n", api.ErrRange},
		{"grid 0 400 2 1 50\n999999999999999999 0\n", api.ErrRange},
		{"grid 0 400 2 1 50\n-999999999999999999 0\n", api.ErrRange},
	} {
		wantParse(t, x.text, api.FocusGrid{}, nil, 0, x.right)
	}
	wantParse(t, "grid 99950 400 2 1 50\n1300 0\n", api.FocusGrid{From: api.Spot{X: 99950, Z: 400}, Columns: 2, Rows: 1, Step: 50}, []int{1300, 0}, 0, api.OK)
}

// TestP5_7ParseLong has texts around the greatest length.
func TestP5_7ParseLong(t *testing.T) {
	wantParse(t, oneText+strings.Repeat("x", 60000-len(oneText)), api.FocusGrid{}, nil, 3, api.ErrSyntax)
	wantParse(t, oneText+strings.Repeat("x", 60001-len(oneText)), api.FocusGrid{}, nil, 0, api.ErrLarge)
	wantParse(t, strings.Repeat("\n", 60000), api.FocusGrid{}, nil, 1, api.ErrSyntax)
	wantParse(t, strings.Repeat("\n", 60001), api.FocusGrid{}, nil, 0, api.ErrLarge)
}
