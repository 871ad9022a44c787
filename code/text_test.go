package code_test

import (
	"slices"
	"strings"
	"testing"

	"couplant/api"
	"couplant/code"
)

func TestP9_6FormatMark(t *testing.T) {
	for _, x := range []struct {
		m     api.CodeMark
		right string
	}{
		{api.CodeMark{}, "0 0 0 0 0 0"}, {api.CodeMark{1, 2, 3, 4, 5, 6}, "1 2 3 4 5 6"}, {most(), "9 20000 20000 20000 100000 200"}, {api.CodeMark{-1, 0, smallest, greatest, -20, 1000000}, "-1 0 -9223372036854775808 9223372036854775807 -20 1000000"},
	} {
		want(t, "FormatMark", code.FormatMark(x.m), api.OK, x.right, api.OK)
	}
}

func TestP9_6ParseMark(t *testing.T) {
	for text, right := range map[string]api.CodeMark{"0 0 0 0 0 0": {}, "1 2 3 4 5 6": {1, 2, 3, 4, 5, 6}, "9 20000 20000 20000 100000 200": most()} {
		m, e := code.ParseMark(text)
		want(t, "ParseMark of "+text, m, e, right, api.OK)
	}
	for text, right := range map[string]api.Errno{
		"": api.ErrSyntax, " ": api.ErrSyntax, "1": api.ErrSyntax, "1 2 3 4 5": api.ErrSyntax, "1 2 3 4 5 6 7": api.ErrSyntax, "1 2 3 4 5 6 ": api.ErrSyntax, " 1 2 3 4 5 6": api.ErrSyntax, "1  2 3 4 5 6": api.ErrSyntax, "1\t2 3 4 5 6": api.ErrSyntax, "1 2 3 4 5 6\n": api.ErrSyntax, "1 2 3 4 5 6#": api.ErrSyntax,
		"x 2 3 4 5 6": api.ErrSyntax, "1 2 3 4 5 x": api.ErrSyntax, "01 2 3 4 5 6": api.ErrSyntax, "1 2 3 4 5 00": api.ErrSyntax, "+1 2 3 4 5 6": api.ErrSyntax, "1 2 3 4 5 1.0": api.ErrSyntax, "-1 2 3 4 5 6": api.ErrSyntax, "1 2 3 4 5 -6": api.ErrSyntax, "1 2 -0 4 5 6": api.ErrSyntax, "1 2 3 1000000 5 6": api.ErrSyntax, "1 2 3 4 5 99999999999999999999": api.ErrSyntax,
		// The form of all numbers comes ahead of the size of one.
		"10 2 3 4 5 x": api.ErrSyntax, "10 2 3 4 5 -6": api.ErrSyntax, "10 2 3 4 5": api.ErrSyntax, "10 2 3 4 5 6": api.ErrRange, "1 20001 3 4 5 6": api.ErrRange, "1 2 20001 4 5 6": api.ErrRange, "1 2 3 20001 5 6": api.ErrRange, "1 2 3 4 100001 6": api.ErrRange, "1 2 3 4 5 201": api.ErrRange, "999999 999999 999999 999999 999999 999999": api.ErrRange,
	} {
		m, e := code.ParseMark(text)
		want(t, "ParseMark of "+shown(text), m, e, api.CodeMark{}, right)
	}
	m, e := code.ParseMark(strings.Repeat("5 ", 100000))
	want(t, "ParseMark of many numbers", m, e, api.CodeMark{}, api.ErrSyntax)
	for _, m := range wrongMarks() {
		right := api.ErrRange
		if text := code.FormatMark(m); strings.Contains(text, "-") || strings.Contains(text, "922337203685477580") {
			right = api.ErrSyntax
		}
		got, e := code.ParseMark(code.FormatMark(m))
		want(t, "ParseMark of "+shown(code.FormatMark(m)), got, e, api.CodeMark{}, right)
	}
}

// strictText is the text of the code of the chapter's examples.
const strictText = "code s\nexcept reject kind 1 1 level 50 200\nrow accept height 0 200\nrow reject height 201 20000\n"

// allText is the text of a code with all words, and all is this code.
const allText = "code All-1\nexcept repeat\nexcept accept kind 0 8 thick 1 20000 depth 0 19999 height 5 5 length 0 99999 level 1 200\nrow reject level 0 0\n"

func all() api.Code {
	return api.Code{Name: "All-1", Except: []api.CodeRow{
		row(repeat),
		row(accept, limit{kind, 0, 8}, limit{thick, 1, 20000}, limit{depth, 0, 19999}, limit{height, 5, 5}, limit{length, 0, 99999}, limit{level, 1, 200}),
	}, Rows: []api.CodeRow{row(reject, limit{level, 0, 0})}}
}

func TestP9_6Print(t *testing.T) {
	for _, x := range []struct {
		c     api.Code
		right string
	}{
		{strict(), strictText}, {all(), allText}, {bare(), "code b\n"}, {bare(row(accept)), "code b\nrow accept\n"}, {api.Code{Name: "row", Except: []api.CodeRow{row(reject, limit{kind, 0, 9}, limit{length, 0, 0})}}, "code row\nexcept reject length 0 0\n"},
	} {
		s, e := code.Print(x.c)
		want(t, "Print", s, e, x.right, api.OK)
	}
	for _, x := range wrongCodes() {
		s, e := code.Print(x.c)
		want(t, "Print of a wrong code", s, e, "", x.right)
	}
}

func TestP9_6Parse(t *testing.T) {
	long := strictText + strings.Repeat("#", 60000-len(strictText))
	for text, right := range map[string]api.Code{
		strictText: strict(), allText: all(), strings.TrimSuffix(strictText, "\n"): strict(), strictText + "# the end\n": strict(), long: strict(),
		"# a code\n\n \t \n\tcode\t s # its name\n#except accept\n except  reject level 50 200 kind 1 1#\n\n\trow accept height 0 200#row\nrow reject\theight 201 20000 thick 0 20000\n \n": strict(),
		"code b": bare(), "code b#": bare(), "code b\n\n": bare(), "code b\nrow accept": bare(row(accept)), "code code\nrow reject kind 0 9\n": {Name: "code", Rows: []api.CodeRow{row(reject)}},
		"code b\n" + strings.Repeat("row accept kind 3 3\n", 10):                                bare(slices.Repeat([]api.CodeRow{row(accept, limit{kind, 3, 3})}, 10)...),
		"code x\n" + strings.Repeat("except repeat\n", 10) + strings.Repeat("row accept\n", 10): {Name: "x", Except: slices.Repeat([]api.CodeRow{row(repeat)}, 10), Rows: slices.Repeat([]api.CodeRow{row(accept)}, 10)},
	} {
		c, m, e := code.Parse(text)
		want(t, "Parse of "+shown(text), c, e, right, api.OK)
		want(t, "the mark of "+shown(text), m, e, api.TextMark{}, api.OK)
	}
	for _, text := range []string{long + "#", long + "\nx", strings.Repeat("\n", 60001), strings.Repeat("x", 100000)} {
		c, m, e := code.Parse(text)
		want(t, "Parse of a text that is too long", c, e, api.Code{}, api.ErrLarge)
		want(t, "the mark of it", m, e, api.TextMark{}, api.ErrLarge)
	}
}

func TestP9_6ParseOfWrongTexts(t *testing.T) {
	exceptions, rows := "code b\n"+strings.Repeat("except reject\n", 10), "code b\n"+strings.Repeat("row reject\n", 10)
	for _, x := range []struct {
		text         string
		line, column int
		right        api.Errno
	}{
		{"", 1, 1, api.ErrMissing}, {" ", 2, 1, api.ErrMissing}, {"\n", 2, 1, api.ErrMissing}, {"# code s", 2, 1, api.ErrMissing}, {"#\n\n\t#", 4, 1, api.ErrMissing}, {"#\n\n\t#\n", 4, 1, api.ErrMissing},
		// The first word.
		{"x", 1, 1, api.ErrSyntax}, {" row accept\n", 1, 2, api.ErrSyntax}, {"\n\n\texcept", 3, 2, api.ErrSyntax}, {"codes s", 1, 1, api.ErrSyntax}, {"Code s", 1, 1, api.ErrSyntax}, {"code\r\n", 1, 1, api.ErrSyntax}, {"cod#e s", 1, 1, api.ErrSyntax}, {"\xff", 1, 1, api.ErrSyntax},
		{"code s\nx", 2, 1, api.ErrSyntax}, {"code s\n\n  code s\n", 3, 3, api.ErrSyntax}, {"code s\nrows accept", 2, 1, api.ErrSyntax}, {"code s\naccept", 2, 1, api.ErrSyntax}, {"code s\nrow accept\nexcept reject\n", 3, 1, api.ErrOrder}, {"code s\nrow accept\n  except x\n", 3, 3, api.ErrOrder}, {"code s\nrow accept\nexcept\n", 3, 1, api.ErrOrder},
		{exceptions + " except accept", 12, 2, api.ErrLarge}, {exceptions + "except", 12, 1, api.ErrLarge}, {exceptions + "excepts", 12, 1, api.ErrSyntax}, {exceptions + "row", 12, 4, api.ErrMissing}, {exceptions + "row accept\nexcept", 13, 1, api.ErrOrder}, {rows + "\trow accept", 12, 2, api.ErrLarge}, {rows + "\n# ten\nrow x", 14, 1, api.ErrLarge}, {rows + "except accept", 12, 1, api.ErrOrder},
		// The name.
		{"code", 1, 5, api.ErrMissing}, {" code \t\n", 1, 6, api.ErrMissing}, {"code# s", 1, 5, api.ErrMissing}, {"code  # s", 1, 5, api.ErrMissing}, {"code 5", 1, 6, api.ErrName}, {"code  abcdefghijklm x", 1, 7, api.ErrName}, {"code a_b", 1, 6, api.ErrName}, {"code s\r\n", 1, 6, api.ErrName}, {"code s x", 1, 8, api.ErrSyntax}, {"code s  row accept", 1, 9, api.ErrSyntax},
		// The decision.
		{"code s\nrow", 2, 4, api.ErrMissing}, {"code s\n except \n", 2, 8, api.ErrMissing}, {"code s\nrow # accept", 2, 4, api.ErrMissing}, {"code s\nrow x", 2, 5, api.ErrSyntax}, {"code s\nexcept  kind 1 1", 2, 9, api.ErrSyntax}, {"code s\nrow Accept", 2, 5, api.ErrSyntax}, {"code s\nrow accept,", 2, 5, api.ErrSyntax}, {"code s\nrow 0", 2, 5, api.ErrSyntax},
		// Limits.
		{"code s\nrow accept height 5\n", 2, 20, api.ErrMissing}, {"code s\nrow accept height 5 4\n", 2, 21, api.ErrOrder}, {"code s\nrow accept kind 1 2 kind 1 1\n", 2, 21, api.ErrDouble}, {"code s\nrow accept x\n", 2, 12, api.ErrSyntax}, {"code s\nrow accept accept\n", 2, 12, api.ErrSyntax}, {"code s\nrow accept kinds 1 2\n", 2, 12, api.ErrSyntax}, {"code s\nrow accept 5 4\n", 2, 12, api.ErrSyntax},
		{"code s\nrow accept kind", 2, 16, api.ErrMissing}, {"code s\nrow accept kind \t \n", 2, 16, api.ErrMissing}, {"code s\nrow accept kind 1 2 thick#", 2, 26, api.ErrMissing}, {"code s\nrow accept kind 1 2 kind", 2, 21, api.ErrDouble}, {"code s\nrow accept kind 0 9 kind x", 2, 21, api.ErrDouble}, {"code s\nrow accept kind 1 2 3\n", 2, 21, api.ErrSyntax}, {"code s\nrow accept kind 1 2 level 3 3 kind 1 1", 2, 31, api.ErrDouble},
		{"code s\nrow accept kind x", 2, 17, api.ErrSyntax}, {"code s\nrow accept kind -1 5", 2, 17, api.ErrSyntax}, {"code s\nrow accept kind 01 5", 2, 17, api.ErrSyntax}, {"code s\nrow accept kind +1 5", 2, 17, api.ErrSyntax}, {"code s\nrow accept length 1000000 5", 2, 19, api.ErrSyntax}, {"code s\nrow accept length 99999999999999999999 5", 2, 19, api.ErrSyntax}, {"code s\nrow accept kind 1 x", 2, 19, api.ErrSyntax}, {"code s\nrow accept kind 5 -4", 2, 19, api.ErrSyntax}, {"code s\nrow accept kind kind 1 1", 2, 17, api.ErrSyntax},
		{"code s\nrow accept kind 10 x", 2, 17, api.ErrRange}, {"code s\nrow accept kind 10", 2, 17, api.ErrRange}, {"code s\nrow accept kind 9 10", 2, 19, api.ErrRange}, {"code s\nrow accept thick 20001 5", 2, 18, api.ErrRange}, {"code s\nrow accept depth 0 20001", 2, 20, api.ErrRange}, {"code s\nrow accept height 20000 20001", 2, 25, api.ErrRange}, {"code s\nrow accept length 0 100001", 2, 21, api.ErrRange}, {"code s\nrow accept level 201 5", 2, 18, api.ErrRange}, {"code s\nrow accept length 999999 5", 2, 19, api.ErrRange},
		{"code s\nrow accept kind 9  8 kind 1 1", 2, 20, api.ErrOrder}, {"code s\nrow accept kind 9 8 x", 2, 19, api.ErrOrder}, {"code s\n\n#\nexcept repeat  level 5 6 thick  1\t 0 # x", 4, 36, api.ErrOrder},
		// The first line with an error decides.
		{"code s\nrow accept kind\nx\n", 2, 16, api.ErrMissing}, {"code\nx\n", 1, 5, api.ErrMissing}, {"code s\nrow\xff", 2, 1, api.ErrSyntax}, {"code s\nrow\u00a0accept", 2, 1, api.ErrSyntax}, {"code s\nrow accept\r\n", 2, 5, api.ErrSyntax}, {"code s\nrow accept kind 1 1\r\n", 2, 19, api.ErrSyntax},
	} {
		c, m, e := code.Parse(x.text)
		want(t, "Parse of "+shown(x.text), c, e, api.Code{}, x.right)
		want(t, "the mark of "+shown(x.text), m, e, api.TextMark{Line: x.line, Column: x.column}, x.right)
	}
}
