package flaw_test

import (
	"slices"
	"testing"

	"couplant/api"
	"couplant/flaw"
)

func TestP8_6CheckMarks(t *testing.T) {
	far := api.FlawMark{Name: "abc-DEF-0123", Along: ends(-1000000, 1000000), Depth: ends(1000000, 1000000), Level: 1000000000}
	for _, l := range [][]api.FlawMark{nil, {}, three(), pair(), other(), {far}, {mark("a", 0, 0, 0, 0), mark("A", 0, 0, 0, 0)}, row(make([]int, 40)...)} {
		n, e := flaw.CheckMarks(l)
		want(t, "CheckMarks", n, e, 0, api.OK)
	}
	for _, x := range wrongLists() {
		n, e := flaw.CheckMarks(x.l)
		want(t, "CheckMarks of "+shown(x.l), n, e, x.n, x.right)
	}
}

func TestP8_6CheckRule(t *testing.T) {
	for _, r := range []api.FlawRule{{Share: frac(0, 1)}, {Along: 100000, Down: 100000, Share: frac(4, 1)}, {Along: 50, Share: frac(1, 4)}, {Down: 1, Share: frac(399, 100)}, {Share: frac(1, 100)}} {
		want(t, "CheckRule", r, flaw.CheckRule(r), r, api.OK)
	}
	for _, x := range wrongRules() {
		want(t, "CheckRule of "+shown(x.r), 0, flaw.CheckRule(x.r), 0, x.right)
	}
}

// doInteract tells whether two marks interact, as the chapter defines it.
func doInteract(a, b api.FlawMark, r api.FlawRule) bool {
	near := func(a, b api.Range, most int) bool {
		gap := max(b.Lo-a.Hi, a.Lo-b.Hi, 0)
		return gap*r.Share.Den <= most*r.Share.Den+r.Share.Num*min(a.Hi-a.Lo, b.Hi-b.Lo)
	}
	return near(a.Along, b.Along, r.Along) && near(a.Depth, b.Depth, r.Down)
}

func TestP8_6Interact(t *testing.T) {
	a := mark("a", 0, 100, 0, 10)
	none, quarter := frac(0, 1), frac(1, 4)
	for _, x := range []struct {
		what  string
		b     api.FlawMark
		r     api.FlawRule
		right bool
	}{
		{"the gap of the rule", mark("b", 150, 200, 0, 10), api.FlawRule{Along: 50, Share: none}, true}, {"a greater gap", mark("b", 150, 200, 0, 10), api.FlawRule{Along: 49, Share: none}, false},
		{"a gap in front", mark("b", -90, -50, 0, 10), api.FlawRule{Along: 50, Share: none}, true}, {"a greater gap in front", mark("b", -90, -51, 0, 10), api.FlawRule{Along: 50, Share: none}, false},
		{"a share of the lesser length", mark("b", 160, 200, 0, 10), api.FlawRule{Along: 50, Share: quarter}, true}, {"not enough of it", mark("b", 161, 201, 0, 10), api.FlawRule{Along: 50, Share: quarter}, false}, {"a part of a share", mark("b", 160, 199, 0, 10), api.FlawRule{Along: 50, Share: quarter}, false}, {"the share of the first one", mark("b", 175, 900, 0, 10), api.FlawRule{Along: 50, Share: quarter}, true}, {"more than this", mark("b", 176, 900, 0, 10), api.FlawRule{Along: 50, Share: quarter}, false},
		{"a gap in depth", mark("b", 50, 60, 13, 20), api.FlawRule{Down: 3, Share: none}, true}, {"a greater gap in depth", mark("b", 50, 60, 14, 20), api.FlawRule{Down: 3, Share: none}, false}, {"a gap above", mark("b", 50, 60, -9, -3), api.FlawRule{Down: 3, Share: none}, true}, {"a greater gap above", mark("b", 50, 60, -9, -4), api.FlawRule{Along: 99, Down: 3, Share: none}, false},
		{"a share of the lesser height", mark("b", 50, 60, 14, 18), api.FlawRule{Along: 0, Down: 3, Share: quarter}, true}, {"too little height", mark("b", 50, 60, 14, 17), api.FlawRule{Along: 0, Down: 3, Share: quarter}, false}, {"four times the height", mark("b", 50, 60, 50, 61), api.FlawRule{Share: frac(4, 1)}, true}, {"more than four times", mark("b", 50, 60, 51, 61), api.FlawRule{Share: frac(4, 1)}, false},
		{"ranges that touch", mark("b", 100, 100, 10, 10), api.FlawRule{Share: none}, true}, {"ranges that do not touch along", mark("b", 101, 101, 10, 10), api.FlawRule{Share: frac(4, 1)}, false}, {"ranges that do not touch in depth", mark("b", 100, 100, 11, 11), api.FlawRule{Share: frac(4, 1)}, false},
		{"near along, far in depth", mark("b", 0, 100, 1000, 1010), api.FlawRule{Along: 100000, Share: none}, false}, {"near in depth, far along", mark("b", 1000, 1100, 0, 10), api.FlawRule{Down: 100000, Share: none}, false}, {"itself", a, api.FlawRule{Share: none}, true}, {"one within", mark("a", 5, 5, 5, 5), api.FlawRule{Share: none}, true}, {"one around", mark("b", -1000000, 1000000, -1000000, 1000000), api.FlawRule{Share: none}, true},
	} {
		is, e := flaw.Interact(a, x.b, x.r)
		want(t, "Interact: "+x.what, is, e, x.right, api.OK)
		is, e = flaw.Interact(x.b, a, x.r)
		want(t, "Interact exchanged: "+x.what, is, e, x.right, api.OK)
	}
	is, e := flaw.Interact(mark("a", -1000000, -1000000, 0, 0), mark("b", 1000000, 1000000, 0, 0), api.FlawRule{Along: 100000, Share: frac(4, 1)})
	want(t, "Interact far apart", is, e, false, api.OK)
	for _, x := range wrongMarks() {
		is, e := flaw.Interact(x.m, api.FlawMark{}, api.FlawRule{Along: -1})
		want(t, "Interact of a wrong mark", is, e, false, x.right)
		is, e = flaw.Interact(a, x.m, api.FlawRule{})
		want(t, "Interact with a wrong mark", is, e, false, x.right)
	}
	for _, x := range wrongRules() {
		is, e := flaw.Interact(a, a, x.r)
		want(t, "Interact by a wrong rule", is, e, false, x.right)
	}
	d := newDice(6)
	counts := map[bool]int{}
	for range 5000 {
		l, r := append(d.marks(5), d.marks(5)...), d.rule()
		for n := 1; n < len(l); n++ {
			right := doInteract(l[0], l[n], r)
			is, e := flaw.Interact(l[0], l[n], r)
			want(t, "Interact", is, e, right, api.OK)
			counts[is]++
		}
	}
	if counts[true] < 1000 || counts[false] < 1000 {
		t.Error("too few marks interact, or do not:", counts)
	}
}

func TestP8_6HullOf(t *testing.T) {
	level := func(m api.FlawMark, n int) api.FlawMark { m.Level = n; return m }
	for _, x := range []struct {
		l     []api.FlawMark
		right api.FlawMark
	}{
		{three(), mark("a", 0, 300, 0, 10)}, {other(), other()[0]},
		{[]api.FlawMark{level(mark("z", 5, 6, 7, 8), 3), level(mark("a", -5, 2, 10, 20), 9), level(mark("b", 7, 7, -4, 9), 5)}, level(mark("z", -5, 7, -4, 20), 9)},
		{[]api.FlawMark{level(mark("z", 0, 9, 0, 9), 9), mark("a", 1, 2, 3, 4)}, level(mark("z", 0, 9, 0, 9), 9)}, {[]api.FlawMark{mark("z", 1, 2, 3, 4), level(mark("a", 0, 9, 0, 9), 9)}, level(mark("z", 0, 9, 0, 9), 9)},
		{row(make([]int, 40)...), mark("a", 0, 0, 0, 10)},
	} {
		h, e := flaw.HullOf(x.l)
		want(t, "HullOf", h, e, x.right, api.OK)
	}
	for _, l := range [][]api.FlawMark{nil, {}} {
		h, e := flaw.HullOf(l)
		want(t, "HullOf none", h, e, api.FlawMark{}, api.ErrShape)
	}
	for _, x := range wrongLists() {
		h, e := flaw.HullOf(x.l)
		want(t, "HullOf wrong marks", h, e, api.FlawMark{}, x.right)
	}
}

// rightHull is the hull of the marks with some numbers.
func rightHull(l []api.FlawMark, numbers []int) api.FlawMark {
	h := l[numbers[0]]
	for _, n := range numbers {
		h.Along = ends(min(h.Along.Lo, l[n].Along.Lo), max(h.Along.Hi, l[n].Along.Hi))
		h.Depth = ends(min(h.Depth.Lo, l[n].Depth.Lo), max(h.Depth.Hi, l[n].Depth.Hi))
		h.Level = max(h.Level, l[n].Level)
	}
	return h
}

// rightGroups is the groups of marks, as the chapter defines them: two that interact, which ones is rolled, become one.
func (d dice) rightGroups(l []api.FlawMark, r api.FlawRule) [][]int {
	var groups [][]int
	for n := range l {
		groups = append(groups, []int{n})
	}
	for {
		var near [][2]int
		for n := range groups {
			for m := range n {
				if doInteract(rightHull(l, groups[m]), rightHull(l, groups[n]), r) {
					near = append(near, [2]int{m, n})
				}
			}
		}
		if len(near) == 0 {
			slices.SortFunc(groups, slices.Compare)
			return groups
		}
		x := near[d.IntN(len(near))]
		groups[x[0]] = slices.Sorted(slices.Values(append(groups[x[0]], groups[x[1]]...)))
		groups = slices.Delete(groups, x[1], x[1]+1)
	}
}

func TestP8_6Grouped(t *testing.T) {
	none, quarter := frac(0, 1), frac(1, 4)
	frame := []api.FlawMark{mark("a", 0, 100, 0, 10), mark("b", 40, 60, 40, 50), mark("c", 0, 10, 90, 100), mark("d", 90, 100, 12, 88)}
	for _, x := range []struct {
		what  string
		l     []api.FlawMark
		r     api.FlawRule
		right [][]int
	}{
		{"the fifth example", three(), api.FlawRule{Along: 50, Share: none}, [][]int{{0, 1}, {2}}}, {"its share", three(), api.FlawRule{Along: 50, Share: quarter}, [][]int{{0, 1, 2}}}, {"a lesser gap", three(), api.FlawRule{Along: 49, Share: none}, [][]int{{0}, {1}, {2}}},
		{"no marks", nil, api.FlawRule{Share: none}, nil}, {"one mark", other(), api.FlawRule{Share: none}, [][]int{{0}}}, {"the same marks", row(make([]int, 40)...), api.FlawRule{Share: none}, [][]int{{0, 1, 2, 3, 4, 5, 6, 7, 8, 9, 10, 11, 12, 13, 14, 15, 16, 17, 18, 19}}},
		{"two groups that alternate", row(0, 10, 100, 110, 12, 20, 112, 120), api.FlawRule{Along: 2, Share: none}, [][]int{{0, 2}, {1, 3}}}, {"the last one joins the others", row(0, 10, 20, 30, 10, 20), api.FlawRule{Share: none}, [][]int{{0, 1, 2}}}, {"the last ones", row(100, 110, 0, 10, 20, 30, 40, 50, 10, 20), api.FlawRule{Share: none}, [][]int{{0}, {1, 2, 4}, {3}}},
		{"a hull that has more than its marks", frame[:2], api.FlawRule{Share: none}, [][]int{{0}, {1}}}, {"a hull around another mark", frame, api.FlawRule{Down: 2, Share: none}, [][]int{{0, 1, 2, 3}}}, {"marks without what makes the hull", frame[:3], api.FlawRule{Down: 2, Share: none}, [][]int{{0}, {1}, {2}}},
		{"lengths that grow", row(0, 4, 5, 9, 11, 31), api.FlawRule{Share: quarter}, [][]int{{0, 1, 2}}}, {"lengths that do not grow enough", row(0, 4, 5, 9, 12, 31), api.FlawRule{Share: quarter}, [][]int{{0, 1}, {2}}}, {"a length alone", row(5, 9, 11, 31), api.FlawRule{Share: quarter}, [][]int{{0}, {1}}},
	} {
		groups, e := flaw.Grouped(x.l, x.r)
		want(t, "Grouped: "+x.what, groups, e, x.right, api.OK)
	}
	for _, x := range wrongLists() {
		groups, e := flaw.Grouped(x.l, api.FlawRule{Along: -1})
		want(t, "Grouped wrong marks", groups, e, nil, x.right)
	}
	for _, x := range wrongRules() {
		groups, e := flaw.Grouped(three(), x.r)
		want(t, "Grouped by a wrong rule", groups, e, nil, x.right)
		groups, e = flaw.Grouped(nil, x.r)
		want(t, "Grouped none by a wrong rule", groups, e, nil, x.right)
	}
	d := newDice(7)
	sizes := map[int]int{}
	for range 3000 {
		l, r := d.marks(20), d.rule()
		right := d.rightGroups(l, r)
		groups, e := flaw.Grouped(l, r)
		want(t, "Grouped", groups, e, right, api.OK)
		sizes[len(groups)]++
	}
	if len(sizes) < 15 {
		t.Error("too few sizes of groups:", sizes)
	}
}
