package focus_test

import (
	"slices"
	"testing"

	"couplant/api"
	"couplant/focus"
)

// without is the elements that are not dead.
func without(elements, dead []int) []int {
	return slices.DeleteFunc(slices.Clone(elements), func(n int) bool { return slices.Contains(dead, n) })
}

func TestP5_6Coverage(t *testing.T) {
	for number, right := range map[int]int{2: 1, 0: 1, 60: 1, 61: 0, -1: 0} {
		l, e := focus.Coverage(firstAt(number), nil)
		want(t, "Coverage", l, e, []int{right}, api.OK)
		l, e = focus.Coverage(firstAt(number), []int{0})
		want(t, "Coverage of none", l, e, []int{0}, api.OK)
	}
	d := newDice(6)
	for range 200 {
		task := d.task()
		dead := d.some(len(task.Array.Elements))
		living := without(allElements(task), dead)
		values, counts := rightImage(task, allPairs(living, living))
		l, e := focus.Coverage(task, dead)
		want(t, "Coverage", l, e, counts, api.OK)
		image, e := focus.WithoutDead(task, dead)
		want(t, "WithoutDead", image, e, values, api.OK)
	}
}

func TestP5_6DeadErrors(t *testing.T) {
	wanted := func(task api.FocusTask, dead []int, right api.Errno) {
		t.Helper()
		l, e := focus.Coverage(task, dead)
		want(t, "Coverage", l, e, nil, right)
		image, e := focus.WithoutDead(task, dead)
		want(t, "WithoutDead", image, e, nil, right)
	}
	for _, x := range wrongTasks() {
		for _, dead := range [][]int{nil, {0}, {-1}, {1, 0}} {
			wanted(x.t, dead, x.right)
		}
	}
	for _, x := range wrongDeads() {
		wanted(two(), x.dead, x.right)
	}
}

// wantModes holds all results of BestModes against the right ones.
func wantModes(t *testing.T, what string, task api.FocusTask, modes [][2]api.RayMode, best, powers []int, f api.Errno) {
	t.Helper()
	l, p, e := focus.BestModes(task, modes)
	want(t, "BestModes of "+what, l, e, best, f)
	want(t, "the powers beside BestModes of "+what, p, e, powers, f)
}

func TestP5_6BestModes(t *testing.T) {
	m := one().Array.Out
	turned, slow := m, m
	turned.Skips, slow.Metal = 1, 4990
	// The echoes of turned come far behind the trace; those of slow come a little later, at the same number.
	for _, x := range []struct {
		what        string
		modes       [][2]api.RayMode
		best, power int
	}{
		{"one", [][2]api.RayMode{{m, m}}, 0, 1300},
		{"two", [][2]api.RayMode{{turned, turned}, {m, m}}, 1, 1300},
		{"two of one power", [][2]api.RayMode{{m, m}, {slow, slow}}, 0, 1300},
		{"two of one power the other way round", [][2]api.RayMode{{slow, slow}, {m, m}}, 0, 1300},
		{"the same ones", [][2]api.RayMode{{turned, turned}, {m, m}, {m, m}, {m, m}}, 1, 1300},
		{"none", [][2]api.RayMode{{turned, turned}}, 0, 0},
		{"none of two", [][2]api.RayMode{{turned, turned}, {m, turned}}, 0, 0},
	} {
		wantModes(t, x.what, one(), x.modes, []int{x.best}, []int{x.power}, api.OK)
	}
}

// TestP5_6BestModesDefinition holds best modes against images with each mode in place of the array's.
func TestP5_6BestModesDefinition(t *testing.T) {
	d := newDice(7)
	others := 0
	for range 200 {
		task := d.task()
		thick := task.Array.Out.Thick
		var modes [][2]api.RayMode
		for range d.from(1, 4) {
			modes = append(modes, [][2]api.RayMode{{task.Array.Out, task.Array.Back}, {d.mode(thick), d.mode(thick)}, {task.Array.Out, d.mode(thick)}}[d.IntN(3)])
		}
		best, powers := make([]int, cells(task.Grid)), make([]int, cells(task.Grid))
		for n, m := range modes {
			x := copied(task)
			x.Array.Out, x.Array.Back = m[0], m[1]
			image, _ := rightImage(x, allPairs(allElements(x), allElements(x)))
			for cell, value := range image {
				power := int(real(value))*int(real(value)) + int(imag(value))*int(imag(value))
				if power > powers[cell] {
					best[cell], powers[cell] = n, power
				}
			}
		}
		wantModes(t, "some", task, modes, best, powers, api.OK)
		for _, n := range best {
			others += min(n, 1)
		}
	}
	if others < 100 {
		t.Error("too few best modes are not the first ones:", others)
	}
}

func TestP5_6BestModesErrors(t *testing.T) {
	m := two().Array.Out
	wrong := func(change func(m *api.RayMode)) api.RayMode {
		other := m
		change(&other)
		return other
	}
	fast := wrong(func(m *api.RayMode) { m.Wedge = 10001 })
	thick := wrong(func(m *api.RayMode) { m.Thick = 1001 })
	right := [2]api.RayMode{m, m}
	for _, x := range []struct {
		modes [][2]api.RayMode
		right api.Errno
	}{
		{nil, api.ErrShape}, {[][2]api.RayMode{}, api.ErrShape},
		{slices.Repeat([][2]api.RayMode{right}, 5), api.ErrLarge}, {make([][2]api.RayMode, 5), api.ErrLarge}, {slices.Repeat([][2]api.RayMode{{thick, m}}, 5), api.ErrLarge},
		{make([][2]api.RayMode, 4), api.ErrRange}, {[][2]api.RayMode{{fast, m}}, api.ErrRange}, {[][2]api.RayMode{{m, fast}}, api.ErrRange}, {[][2]api.RayMode{right, right, right, {m, fast}}, api.ErrRange},
		{[][2]api.RayMode{{m, wrong(func(m *api.RayMode) { m.Metal = 499 })}}, api.ErrRange},
		{[][2]api.RayMode{{wrong(func(m *api.RayMode) { m.Skips = 5 }), m}}, api.ErrRange},
		{[][2]api.RayMode{{m, wrong(func(m *api.RayMode) { m.Skips = -1 })}}, api.ErrRange},
		{[][2]api.RayMode{{m, wrong(func(m *api.RayMode) { m.Thick = 20001 })}}, api.ErrRange},
		{[][2]api.RayMode{{wrong(func(m *api.RayMode) { m.Thick = smallest }), m}}, api.ErrRange},
		{[][2]api.RayMode{{thick, m}}, api.ErrUnit}, {[][2]api.RayMode{{m, thick}}, api.ErrUnit}, {[][2]api.RayMode{{thick, thick}}, api.ErrUnit}, {[][2]api.RayMode{right, {m, thick}}, api.ErrUnit},
		// Of one mode the errors of both come first; of two the first one counts.
		{[][2]api.RayMode{{thick, fast}}, api.ErrRange}, {[][2]api.RayMode{{thick, m}, {fast, m}}, api.ErrUnit}, {[][2]api.RayMode{{m, fast}, {m, thick}}, api.ErrRange},
	} {
		wantModes(t, "wrong modes", two(), x.modes, nil, nil, x.right)
	}
	for _, x := range wrongTasks() {
		for _, modes := range [][][2]api.RayMode{{right}, nil, make([][2]api.RayMode, 5), {{fast, m}}, {{thick, thick}}} {
			wantModes(t, "a wrong task", x.t, modes, nil, nil, x.right)
		}
	}
}
