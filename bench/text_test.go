package bench_test

import (
	"strings"
	"testing"

	"couplant/api"
	"couplant/bench"
)

// oneText is the text of the specimen one, twoText that of two.
const (
	oneText = "times 3900000 50000\nout 2500 5000 0 1000\nback 2500 5000 0 1000\nelement 0 -300\npulse 3 -2\npore 0 400 10\n"
	twoText = "times 4800000 40000\nout 2500 5000 0 1000\nback 2700 5900 1 1000\nelement -50 -300\nelement 70 -200\npulse 3 0 -2\npore 0 400 10\nplane -30 500 45 450 4 5 -7\n"
)

func TestP4_6FormatFlaw(t *testing.T) {
	for _, x := range []struct {
		f     api.BenchFlaw
		right string
	}{
		{pore(0, 400, 10), "pore 0 400 10"},
		{pore(-7, -1, -1000), "pore -7 -1 -1000"},
		{plane(api.Spot{Z: 400}, api.Spot{X: 30, Z: 400}, 3, 5, 2), "plane 0 400 30 400 3 5 2"},
		{plane(api.Spot{X: 1, Z: -2}, api.Spot{X: -3, Z: 4}, 20, -6, -7), "plane 1 -2 -3 4 20 -6 -7"},
		// Also of flaws that are not right.
		{api.BenchFlaw{}, "pore 0 0 0"},
		{api.BenchFlaw{From: api.Spot{X: 1, Z: 2}, To: api.Spot{X: 3, Z: 4}, Pieces: 5, Amplitude: 6, Tip: 7}, "pore 1 2 6"},
		{api.BenchFlaw{Kind: api.BenchPlane}, "plane 0 0 0 0 0 0 0"},
		{pore(smallest, greatest, smallest), "pore -9223372036854775808 9223372036854775807 -9223372036854775808"},
		{api.BenchFlaw{Kind: 2, Amplitude: 5}, ""},
		{api.BenchFlaw{Kind: -1}, ""},
		{api.BenchFlaw{Kind: smallest}, ""},
		{api.BenchFlaw{Kind: greatest}, ""},
	} {
		want(t, "FormatFlaw", bench.FormatFlaw(x.f), api.OK, x.right, api.OK)
	}
}

func TestP4_6ParseFlaw(t *testing.T) {
	for _, x := range []struct {
		s     string
		right api.BenchFlaw
		e     api.Errno
	}{
		{"pore 0 400 10", pore(0, 400, 10), api.OK},
		{"pore 0 0 0", pore(0, 0, 0), api.OK},
		{"pore -100000 100000 -1000", pore(-100000, 100000, -1000), api.OK},
		{"plane 0 400 30 400 3 5 2", plane(api.Spot{Z: 400}, api.Spot{X: 30, Z: 400}, 3, 5, 2), api.OK},
		{"plane 1 -2 -3 4 20 -6 -7", plane(api.Spot{X: 1, Z: -2}, api.Spot{X: -3, Z: 4}, 20, -6, -7), api.OK},
		{"pore 100001 400 10", api.BenchFlaw{}, api.ErrRange},
		{"pore 0 -100001 10", api.BenchFlaw{}, api.ErrRange},
		{"pore 0 400 1001", api.BenchFlaw{}, api.ErrRange},
		{"pore 9999999999999 400 10", api.BenchFlaw{}, api.ErrRange},
		{"pore -1234567890123 400 10", api.BenchFlaw{}, api.ErrRange},
		{"plane 0 400 30 400 0 5 2", api.BenchFlaw{}, api.ErrRange},
		{"plane 0 400 30 400 21 5 2", api.BenchFlaw{}, api.ErrRange},
		{"plane 0 400 30 -100001 1 5 2", api.BenchFlaw{}, api.ErrRange},
		{"plane 0 400 30 400 3 5 -1001", api.BenchFlaw{}, api.ErrRange},
		{"plane 30 400 30 400 3 5 2", api.BenchFlaw{}, api.ErrZero},
		{"plane 30 400 30 400 0 5 2", api.BenchFlaw{}, api.ErrRange},
	} {
		f, e := bench.ParseFlaw(x.s)
		want(t, "ParseFlaw of "+x.s, f, e, x.right, x.e)
	}
}

// wrongTexts are the texts of no flaw.
func wrongTexts() []string {
	return []string{
		"", " ", "pore", "plane", "pore ", "0 400 10", "crack 0 400 10", "Pore 0 400 10", "pores 0 400 10", "por 0 400 10",
		"pore 0 400", "pore 0 400 10 1", "pore 0 400 10 0 0 0 0", "plane 0 400 30 400 3 5", "plane 0 400 30 400 3 5 2 1", "plane 0 400 10", "pore 0 400 30 400 3 5 2",
		" pore 0 400 10", "pore 0 400 10 ", "pore  0 400 10", "pore 0  400 10", "pore\t0 400 10", "pore 0 400\t10", "pore,0,400,10", "pore 0 400 10\r", "pore0 400 10",
		"pore -0 400 10", "pore 00 400 10", "pore 0 0400 10", "pore 0 +400 10", "pore 0 400 1.0", "pore 0 400 1e1", "pore 0 400 x", "pore 0 400 0x1", "pore 0 400 1_0", "pore 0 400 -", "pore 0 400 --1", "pore 0 400 1-", "pore 0 400 -01",
		"pore 10000000000000 400 10", "pore 0 -12345678901234 10", "pore 0 400 99999999999999999999", "pore 0 400 0000000000001",
		"pore 0 400 \xff", "pore 0 400 \x00", "pore 0 400 ٣", "pore 0 400 −5", "plane 0 400 30 400 3 5 02", "plane 0 400 30 x 3 5 2", "plane x 400 30 400 3 5 2",
		// Whatever else is wrong.
		"pore 100001 x 10", "plane 0 0 0 0 0 0 -0",
	}
}

func TestP4_6ParseFlawErrors(t *testing.T) {
	for _, s := range append(wrongTexts(), "pore 0 400 10\n", "pore 0 400 10\npore 0 400 10", "\npore 0 400 10") {
		f, e := bench.ParseFlaw(s)
		want(t, "ParseFlaw of "+s, f, e, api.BenchFlaw{}, api.ErrSyntax)
	}
}

func TestP4_6Print(t *testing.T) {
	s, e := bench.Print(one())
	want(t, "Print", s, e, oneText, api.OK)
	s, e = bench.Print(two())
	want(t, "Print of two", s, e, twoText, api.OK)
	none := one()
	none.Flaws, none.Pulse = nil, []int{0}
	s, e = bench.Print(none)
	want(t, "Print without flaws", s, e, "times 3900000 50000\nout 2500 5000 0 1000\nback 2500 5000 0 1000\nelement 0 -300\npulse 0\n", api.OK)
	for _, x := range wrongSpecimens() {
		s, e := bench.Print(x.s)
		want(t, "Print of a wrong specimen", s, e, "", x.right)
	}
}

// wantParse holds all three results of Parse against the right ones.
func wantParse(t *testing.T, text string, right api.BenchSpecimen, line int, f api.Errno) {
	t.Helper()
	s, n, e := bench.Parse(text)
	want(t, "Parse of "+shown(text), s, e, right, f)
	want(t, "the line beside Parse of "+shown(text), n, e, line, f)
}

func TestP4_6Parse(t *testing.T) {
	wantParse(t, oneText, one(), 0, api.OK)
	wantParse(t, twoText, two(), 0, api.OK)
	none := one()
	none.Flaws = nil
	wantParse(t, strings.TrimSuffix(oneText, "pore 0 400 10\n"), none, 0, api.OK)
	many := one()
	for range 9 {
		many.Flaws = append(many.Flaws, many.Flaws[0])
	}
	wantParse(t, oneText+strings.Repeat("pore 0 400 10\n", 9), many, 0, api.OK)
}

// TestP4_6ParseLines has a wrong line each, in the place of each line, and behind it, and lines that are not there.
func TestP4_6ParseLines(t *testing.T) {
	wrong := func(text string, line int) {
		t.Helper()
		wantParse(t, text, api.BenchSpecimen{}, line, api.ErrSyntax)
	}
	lines := strings.SplitAfter(strings.TrimSuffix(twoText, "\n"), "\n")
	lines[len(lines)-1] += "\n"
	for n, line := range lines {
		before, behind := strings.Join(lines[:n], ""), strings.Join(lines[n+1:], "")
		bare := strings.TrimSuffix(line, "\n")
		for _, bad := range []string{"\n", "x\n", " " + line, bare + " \n", bare + "\r\n", bare + " x\n", bare + " 05\n", bare + " -0\n", bare + " +5\n", bare + "  5\n", bare + " 12345678901234\n", "\n" + line, strings.ToUpper(line)} {
			wrong(before+bad+behind, n+1)
		}
		wrong(before+bare, n+1)
		word, _, _ := strings.Cut(bare, " ")
		wrong(before+word+"\n"+behind, n+1)
		wrong(before+strings.Replace(line, " ", "\t", 1)+behind, n+1)
		// Numbers of another length than that of the form.
		if word != "pulse" {
			wrong(before+bare+" 5\n"+behind, n+1)
			wrong(before+word+" 5\n"+behind, n+1)
			wrong(before+bare[:strings.LastIndex(bare, " ")]+"\n"+behind, n+1)
		}
		// The first one that is wrong counts.
		wrong(before+"x\n"+strings.Repeat("y\n", 3), n+1)
	}
	for n := range 6 {
		wrong(strings.Join(lines[:n], ""), n+1)
	}
	wrong(twoText+"\n", 9)
	wrong(twoText+" ", 9)
	wrong(twoText+"pore 1 2 3", 9)
	wrong(twoText+"\x00\n", 9)
	for _, text := range wrongTexts() {
		if text != "" {
			wrong(oneText+text+"\n", 7)
		}
		wrong(oneText+text+"\npore 0 400 10\n", 7)
	}
}

// TestP4_6ParseOrder has right lines in a wrong order.
func TestP4_6ParseOrder(t *testing.T) {
	lines := strings.SplitAfter(twoText, "\n")
	for _, x := range []struct {
		order []int
		line  int
	}{
		{[]int{1, 0, 2, 3, 5, 6}, 1}, {[]int{0, 2, 1, 3, 5, 6}, 2}, {[]int{0, 1, 1, 3, 5, 6}, 3}, {[]int{0, 0, 1, 2, 5}, 2}, {[]int{0, 1, 3, 2, 5}, 3},
		{[]int{0, 1, 2, 5, 3, 6}, 5}, {[]int{0, 1, 2, 3, 6, 5}, 5}, {[]int{0, 1, 2, 3, 5, 5}, 6}, {[]int{0, 1, 2, 3, 5, 6, 3}, 7}, {[]int{0, 1, 2, 3, 5, 6, 5}, 7}, {[]int{0, 1, 2, 6}, 4}, {[]int{0, 1, 2, 3, 0}, 5},
	} {
		var text strings.Builder
		for _, n := range x.order {
			text.WriteString(lines[n])
		}
		wantParse(t, text.String(), api.BenchSpecimen{}, x.line, api.ErrSyntax)
	}
	swapped := two()
	swapped.Flaws[0], swapped.Flaws[1] = swapped.Flaws[1], swapped.Flaws[0]
	wantParse(t, strings.Join(lines[:6], "")+lines[7]+lines[6], swapped, 0, api.OK)
}

// TestP4_6ParseSpecimen has texts whose lines have their forms, of specimens that are not right: beside the error stands 0.
func TestP4_6ParseSpecimen(t *testing.T) {
	for _, x := range []struct {
		old, other string
		right      api.Errno
	}{
		{"element -50 -300\nelement 70 -200\n", "", api.ErrShape},
		{"element -50 -300\n", strings.Repeat("element -50 -300\n", 16), api.ErrLarge},
		{"element 70 -200", "element 100001 -200", api.ErrRange},
		{"element 70 -200", "element 70 0", api.ErrKind},
		{"element 70 -200", "element 70 9999999999999", api.ErrRange},
		{"out 2500", "out 499", api.ErrRange},
		{"back 2700 5900 1", "back 2700 5900 5", api.ErrRange},
		{"1 1000", "1 1001", api.ErrUnit},
		{"times 4800000 40000", "times 4800000 0", api.ErrRange},
		{"times 4800000", "times -4800000", api.ErrRange},
		{"times 4800000", "times 1000000000001", api.ErrRange},
		{"pulse 3 0 -2", "pulse" + strings.Repeat(" 3", 17), api.ErrLarge},
		{"pulse 3 0 -2", "pulse 3 0 -101", api.ErrRange},
		{"pore 0 400 10\n", strings.Repeat("pore 0 400 10\n", 10), api.ErrLarge},
		{"pore 0 400 10\n", strings.Repeat("pore 0 400 1001\n", 2000), api.ErrLarge},
		{"pore 0 400 10", "pore 0 400 1001", api.ErrRange},
		{"pore 0 400 10", "pore 0 1000 10", api.ErrBreak},
		{"45 450", "-30 500", api.ErrZero},
		{"45 450 4", "-30 500 21", api.ErrRange},
		{"45 450", "45 0", api.ErrBreak},
	} {
		text := strings.Replace(twoText, x.old, x.other, 1)
		if text == twoText {
			t.Fatalf("no %q", x.old)
		}
		wantParse(t, text, api.BenchSpecimen{}, 0, x.right)
	}
	late := two()
	late.Array.Times.First = api.MaxTime
	wantParse(t, strings.Replace(twoText, "4800000", "1000000000000", 1), late, 0, api.OK)
}

// TestP4_6ParseLong has texts around the greatest length.
func TestP4_6ParseLong(t *testing.T) {
	filled := func(length int) string {
		const flaw = "pore 0 400 10\n"
		text := oneText + strings.Repeat(flaw, (length-len(oneText))/len(flaw))
		return text + strings.Repeat("x", length-len(text))
	}
	wantParse(t, filled(60000), api.BenchSpecimen{}, 1+strings.Count(filled(60000), "\n"), api.ErrSyntax)
	wantParse(t, strings.Repeat("x", 60001), api.BenchSpecimen{}, 0, api.ErrLarge)
	wantParse(t, filled(60001), api.BenchSpecimen{}, 0, api.ErrLarge)
	wantParse(t, strings.Repeat("\n", 60000), api.BenchSpecimen{}, 1, api.ErrSyntax)
	wantParse(t, strings.Repeat("\n", 60001), api.BenchSpecimen{}, 0, api.ErrLarge)
}
