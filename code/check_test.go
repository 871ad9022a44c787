package code_test

import (
	"slices"
	"testing"

	"couplant/api"
	"couplant/code"
)

func TestP9_1CheckCode(t *testing.T) {
	full := api.Code{Name: "abc-DEF-0123", Except: slices.Repeat([]api.CodeRow{row(repeat, limit{kind, 9, 9}, limit{length, 100000, 100000})}, 10), Rows: slices.Repeat([]api.CodeRow{row(accept)}, 10)}
	for _, c := range []api.Code{strict(), bare(), bare([]api.CodeRow{}...), {Name: "a", Except: []api.CodeRow{row(accept), row(reject), row(repeat)}}, full} {
		n, e := code.CheckCode(c)
		want(t, "CheckCode", n, e, 0, api.OK)
	}
	for _, x := range wrongCodes() {
		n, e := code.CheckCode(x.c)
		want(t, "CheckCode of "+shown(x.c), n, e, x.n, x.right)
	}
	n, e := code.CheckCode(api.Code{})
	want(t, "CheckCode of nothing", n, e, 0, api.ErrName)
}

func TestP9_1CheckMark(t *testing.T) {
	for _, m := range []api.CodeMark{{}, most(), {5, 6, 20000, 0, 8, 200}} {
		want(t, "CheckMark", 0, code.CheckMark(m), 0, api.OK)
	}
	for _, m := range wrongMarks() {
		want(t, "CheckMark of "+shown(m), 0, code.CheckMark(m), 0, api.ErrRange)
	}
}

func TestP9_1CheckBox(t *testing.T) {
	for _, b := range []api.CodeBox{{}, whole(), box(limit{kind, 9, 9}, limit{length, 5, 6})} {
		want(t, "CheckBox", 0, code.CheckBox(b), 0, api.OK)
	}
	for quantity, n := range most() {
		for _, r := range []limit{{quantity, 0, 0}, {quantity, n, n}, {quantity, n - 1, n}} {
			want(t, "CheckBox", 0, code.CheckBox(box(r)), 0, api.OK)
		}
	}
	for _, x := range wrongBoxes() {
		want(t, "CheckBox of "+shown(x.b), 0, code.CheckBox(x.b), 0, x.right)
	}
}
