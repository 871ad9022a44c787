package law_test

import (
	"slices"
	"testing"

	"couplant/api"
	"couplant/law"
)

func TestP2_6FormatLaw(t *testing.T) {
	for _, x := range []struct {
		l     api.DelayLaw
		right string
	}{
		{ticks(-1, 0), "1000 - 0"},
		{ticks(1200, 0), "1000 1200 0"},
		{ticks(), "1000"},
		{api.DelayLaw{}, "0"},
		{api.DelayLaw{Clock: -7, Ticks: []int{-2, smallest, greatest, -1}}, "-7 - - 9223372036854775807 -"},
		{api.DelayLaw{Clock: smallest}, "-9223372036854775808"},
		{ticks(slices.Repeat([]int{10}, 18)...), words(append([]string{"1000"}, slices.Repeat([]string{"10"}, 18)...)...)},
	} {
		want(t, "FormatLaw", law.FormatLaw(x.l), api.OK, x.right, api.OK)
	}
}

func TestP2_6ParseLaw(t *testing.T) {
	sixteen := slices.Repeat([]string{"7"}, 16)
	for _, x := range []struct {
		s     string
		right api.DelayLaw
		e     api.Errno
	}{
		{"1000 - 0", ticks(-1, 0), api.OK},
		{"1 1000000", api.DelayLaw{Clock: 1, Ticks: []int{1000000}}, api.OK},
		{"1000000 -", api.DelayLaw{Clock: 1000000, Ticks: []int{-1}}, api.OK},
		{words(append([]string{"1000"}, sixteen...)...), ticks(slices.Repeat([]int{7}, 16)...), api.OK},
		{words(append([]string{"1000", "-"}, sixteen...)...), none(), api.ErrLarge},
		{"1000", none(), api.ErrShape},
		{"0", none(), api.ErrRange},
		{"0 1", none(), api.ErrRange},
		{"-5 1", none(), api.ErrRange},
		{"-123456789 1", none(), api.ErrRange},
		{"123456789 1", none(), api.ErrRange},
		{"1000001 1", none(), api.ErrRange},
		{"1000 1000001", none(), api.ErrRange},
		{"1000 0 999999999", none(), api.ErrRange},
	} {
		l, e := law.ParseLaw(x.s)
		want(t, "ParseLaw of "+x.s, l, e, x.right, x.e)
	}
}

func TestP2_6ParseLawErrors(t *testing.T) {
	for _, s := range []string{
		"", " ", "-", "x", "- 1", "1000 1 ", " 1000 1", "1000  1", "1000\t1", "1000 1\n", "1000,1",
		"1000 -5", "1000 -0", "1000 -1", "1000 +5", "1000 05", "1000 00", "1000 --", "1000 5-", "1000 x", "1000 1.0", "1000 1_0", "1000 0x1", "1000 1e3",
		"01000 1", "+1000 1", "-0 1", "--5 1", "-05 1", "0x10 1", "1_000 1",
		"1234567890 1", "-1234567890 1", "1000 1234567890", "0000000001 1", "99999999999999999999 1", "1000 99999999999999999999",
		"1000 \xff", "1000 \x00", "1000 ٣", "1000 −5",
		// The text of no law, whatever else is wrong.
		"0 x", "0 1 ", words(append([]string{"1000"}, slices.Repeat([]string{"x"}, 17)...)...), "1000 1000001 x",
	} {
		l, e := law.ParseLaw(s)
		want(t, "ParseLaw of "+s, l, e, none(), api.ErrSyntax)
	}
}
