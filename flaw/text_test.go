package flaw_test

import (
	"strings"
	"testing"

	"couplant/api"
	"couplant/flaw"
)

func TestP8_8FormatMark(t *testing.T) {
	for _, x := range []struct {
		m     api.FlawMark
		right string
	}{
		{api.FlawMark{Name: "m1", Along: ends(0, 100), Depth: ends(0, 10), Level: 7}, "m1 0 100 0 10 7"}, {api.FlawMark{}, " 0 0 0 0 0"}, {mark("a", -5, -4, -3, 2), "a -5 -4 -3 2 0"},
		{api.FlawMark{Name: "a b\n\xff", Along: ends(smallest, greatest), Depth: ends(5, -5), Level: -1}, "a b\n\xff -9223372036854775808 9223372036854775807 5 -5 -1"},
	} {
		want(t, "FormatMark", flaw.FormatMark(x.m), api.OK, x.right, api.OK)
	}
}

func TestP8_8ParseMark(t *testing.T) {
	for _, x := range []struct {
		text  string
		right api.FlawMark
	}{
		{"m1 0 100 0 10 7", api.FlawMark{Name: "m1", Along: ends(0, 100), Depth: ends(0, 10), Level: 7}}, {"a 0 0 0 0 0", mark("a", 0, 0, 0, 0)},
		{"abc-DEF-0123 -1000000 1000000 -1000000 1000000 1000000000", api.FlawMark{Name: "abc-DEF-0123", Along: ends(-1000000, 1000000), Depth: ends(-1000000, 1000000), Level: 1000000000}},
	} {
		m, e := flaw.ParseMark(x.text)
		want(t, "ParseMark of "+x.text, m, e, x.right, api.OK)
	}
	for text, right := range map[string]api.Errno{
		"": api.ErrSyntax, " ": api.ErrSyntax, "m1": api.ErrSyntax, "m1 ": api.ErrSyntax, "m1 0 100 0 10": api.ErrSyntax, "m1 0 100 0 10 7 8": api.ErrSyntax, "m1 0 100 0 10 7 ": api.ErrSyntax, " m1 0 100 0 10 7": api.ErrSyntax, "m1  0 100 0 10 7": api.ErrSyntax, "m1 0 100 0 10 7\n": api.ErrSyntax, "m1 0 100\t0 10 7": api.ErrSyntax, "m1\t0 100 0 10 7": api.ErrSyntax,
		"m1\n 0 100 0 10 7": api.ErrSyntax, "\n 0 100 0 10 7": api.ErrSyntax, "m1 0 100 0 10 x": api.ErrSyntax, "m1 -0 100 0 10 7": api.ErrSyntax, "m1 0 0100 0 10 7": api.ErrSyntax, "m1 0 +100 0 10 7": api.ErrSyntax, "m1 0 100 0 1.0 7": api.ErrSyntax, "m1 0 100 0 10 10000000000": api.ErrSyntax, "m1 -10000000000 100 0 10 7": api.ErrSyntax, "a b 0 100 0 10 7": api.ErrSyntax, "0 100 0 10 7": api.ErrSyntax,
		" 0 100 0 10 7": api.ErrName, "1 0 100 0 10 7": api.ErrName, "a\tb 0 100 0 10 7": api.ErrName, "\xff\x00 9999999999 -9999999999 0 0 0": api.ErrName, "abcdefghijklm 0 100 0 10 7": api.ErrName, "-1 9 1 0 10 7": api.ErrName, "m_ 0 100 0 10 7": api.ErrName, "m\r 0 100 0 10 7": api.ErrName,
		"m1 -1000001 100 0 10 7": api.ErrRange, "m1 0 1000001 0 10 7": api.ErrRange, "m1 0 100 9999999999 10 7": api.ErrRange, "m1 0 100 0 -9999999999 7": api.ErrRange, "m1 9 1 0 1000001 7": api.ErrRange, "m1 9 1 0 10 7": api.ErrOrder, "m1 0 100 11 10 -1": api.ErrOrder, "m1 0 100 0 10 -1": api.ErrRange, "m1 0 100 0 10 1000000001": api.ErrRange,
	} {
		m, e := flaw.ParseMark(text)
		want(t, "ParseMark of "+shown(text), m, e, api.FlawMark{}, right)
	}
	m, e := flaw.ParseMark(strings.Repeat("5 ", 100000))
	want(t, "ParseMark of many numbers", m, e, api.FlawMark{}, api.ErrSyntax)
	for _, x := range wrongMarks() {
		right := x.right
		text := flaw.FormatMark(x.m)
		if strings.Contains(x.m.Name, " ") || strings.Contains(x.m.Name, "\n") || strings.Contains(text, "922337203685477580") {
			right = api.ErrSyntax
		}
		m, e := flaw.ParseMark(text)
		want(t, "ParseMark of "+shown(text), m, e, api.FlawMark{}, right)
	}
}

// TestP8_13 parses texts of right marks.
func TestP8_13(t *testing.T) {
	d := newDice(10)
	roll := func(most int) api.Range {
		r := ends(d.from(-most, most), 0)
		r.Hi = d.from(r.Lo, most)
		return r
	}
	for range 3000 {
		name := letter(d.IntN(26))
		for range d.from(0, 11) {
			name += []string{"a", "Z", "0", "9", "-"}[d.IntN(5)]
		}
		m := api.FlawMark{Name: name, Along: roll(d.one(9, 1000000)), Depth: roll(d.one(9, 1000000)), Level: d.from(0, d.one(9, 1000000000))}
		got, e := flaw.ParseMark(flaw.FormatMark(m))
		want(t, "ParseMark", got, e, m, api.OK)
	}
}
