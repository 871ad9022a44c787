package focus_test

import (
	"math"
	"slices"
	"testing"

	"couplant/api"
	"couplant/focus"
)

func TestP5_4Share(t *testing.T) {
	l, e := focus.Share(one(), []int{0})
	want(t, "Share", l, e, []complex128{complex(30, -20)}, api.OK)
	for _, none := range [][]int{nil, {}} {
		l, e = focus.Share(two(), none)
		want(t, "Share of no firing", l, e, make([]complex128, 6), api.OK)
	}
	d := newDice(3)
	for range 100 {
		task := d.task()
		firings := d.some(len(task.Array.Elements))
		d.Shuffle(len(firings), func(i, j int) { firings[i], firings[j] = firings[j], firings[i] })
		right, _ := rightImage(task, allPairs(firings, allElements(task)))
		l, e := focus.Share(task, firings)
		want(t, "Share", l, e, right, api.OK)
	}
}

func TestP5_4ShareErrors(t *testing.T) {
	for _, x := range wrongTasks() {
		for _, firings := range [][]int{nil, {0}, {-1}, {0, 0}} {
			l, e := focus.Share(x.t, firings)
			want(t, "Share of a wrong task", l, e, nil, x.right)
		}
	}
	for _, x := range []struct {
		firings []int
		right   api.Errno
	}{
		{[]int{2}, api.ErrMissing}, {[]int{-1}, api.ErrMissing}, {[]int{smallest}, api.ErrMissing}, {[]int{0, 1, greatest}, api.ErrMissing}, {[]int{1 << 32}, api.ErrMissing},
		{[]int{0, 0}, api.ErrDouble}, {[]int{1, 0, 1}, api.ErrDouble}, {[]int{0, 0, 2}, api.ErrDouble}, {[]int{0, 2, 0}, api.ErrMissing}, {[]int{2, 2}, api.ErrMissing},
	} {
		l, e := focus.Share(two(), x.firings)
		want(t, "Share of wrong firings", l, e, nil, x.right)
	}
}

func TestP5_4Merged(t *testing.T) {
	many := func(images int, values ...complex128) [][]complex128 {
		return slices.Repeat([][]complex128{values}, images)
	}
	for _, x := range []struct {
		l     [][]complex128
		right []complex128
	}{
		{[][]complex128{{1, complex(0, 2)}, {3, complex(-1, -2)}}, []complex128{4, -1}},
		{many(1, complex(5, -7)), []complex128{complex(5, -7)}},
		{[][]complex128{nil}, nil},
		{[][]complex128{{}, nil, {}}, nil},
		// A sum may be greater than what is added.
		{many(16, complex(1e7, -1e7)), []complex128{complex(16e7, -16e7)}},
		{many(2, complex(minus(), minus()), 0), []complex128{0, 0}},
		{[][]complex128{{complex(-3, 5), 1}, {complex(3, -5), -1}}, []complex128{0, 0}},
		{many(16, make([]complex128, 1600)...), make([]complex128, 1600)},
	} {
		l, e := focus.Merged(x.l)
		want(t, "Merged", l, e, x.right, api.OK)
	}
}

func TestP5_4MergedErrors(t *testing.T) {
	half, nan, endless, loud := complex(0, 0.5), complex(math.NaN(), 0), complex(0, math.Inf(-1)), complex(10000001, 0)
	for _, x := range []struct {
		l     [][]complex128
		right api.Errno
	}{
		{nil, api.ErrShape}, {[][]complex128{}, api.ErrShape},
		{[][]complex128{{1}, {}}, api.ErrShape}, {[][]complex128{nil, {1}}, api.ErrShape}, {[][]complex128{{1}, {2}, {3, 4}}, api.ErrShape},
		{[][]complex128{{1}, {half, loud}}, api.ErrShape},
		{append(make([][]complex128, 17), []complex128{1}), api.ErrShape},
		{[][]complex128{make([]complex128, 1601), make([]complex128, 1600)}, api.ErrShape},
		{make([][]complex128, 17), api.ErrLarge},
		{slices.Repeat([][]complex128{{half}}, 17), api.ErrLarge},
		{[][]complex128{make([]complex128, 1601)}, api.ErrLarge},
		{[][]complex128{slices.Repeat([]complex128{half}, 1601)}, api.ErrLarge},
		{[][]complex128{{half}}, api.ErrWhole}, {[][]complex128{{1, 2}, {3, nan}}, api.ErrWhole}, {[][]complex128{{1, 2}, {endless, 3}}, api.ErrWhole},
		{[][]complex128{{complex(-0.25, 0)}}, api.ErrWhole}, {[][]complex128{{complex(math.Inf(1), 0)}}, api.ErrWhole}, {[][]complex128{{complex(0, math.NaN())}}, api.ErrWhole},
		{[][]complex128{{loud}}, api.ErrRange}, {[][]complex128{{-loud}}, api.ErrRange}, {[][]complex128{{1, complex(0, 10000001)}}, api.ErrRange}, {[][]complex128{{1}, {complex(0, -10000001)}}, api.ErrRange},
		{[][]complex128{{complex(1e300, 0)}}, api.ErrRange}, {[][]complex128{{complex(0, -math.MaxFloat64)}}, api.ErrRange},
		// Of one value ErrWhole comes first, also if it is that of the other part.
		{[][]complex128{{complex(10000001, 0.5)}}, api.ErrWhole}, {[][]complex128{{complex(0.5, 10000001)}}, api.ErrWhole}, {[][]complex128{{complex(1e7+0.5, 0)}}, api.ErrWhole},
		// Value by value, image by image.
		{[][]complex128{{1, half}, {loud, 1}}, api.ErrRange}, {[][]complex128{{1, loud}, {half, 1}}, api.ErrWhole},
		{[][]complex128{{loud, 1}, {half, 1}}, api.ErrRange}, {[][]complex128{{half, 1}, {loud, 1}}, api.ErrWhole},
		{[][]complex128{{1, loud}, {1, half}}, api.ErrRange}, {[][]complex128{{1, half}, {1, loud}}, api.ErrWhole},
		{[][]complex128{{1, 1, half}, {1, loud, 1}}, api.ErrRange}, {[][]complex128{{1, 1, loud}, {1, half, 1}}, api.ErrWhole},
		{[][]complex128{{1, 1, loud}, {1, 1, 1}, {1, half, 1}}, api.ErrWhole}, {[][]complex128{{1, 1}, {1, half}, {loud, 1}}, api.ErrRange},
	} {
		l, e := focus.Merged(x.l)
		want(t, "Merged of "+shown(x.right), l, e, nil, x.right)
	}
}

func TestP5_4CheckDeal(t *testing.T) {
	all := []int{0, 1, 2, 3, 4, 5, 6, 7, 8, 9, 10, 11, 12, 13, 14, 15}
	for _, x := range []struct {
		elements int
		deal     [][]int
		workers  int
		right    api.Errno
	}{
		{2, [][]int{{0}, {1}}, 2, api.OK}, {2, [][]int{{1, 0}, {}}, 1, api.OK}, {2, [][]int{nil, {1}, {}, {0}, nil}, 2, api.OK}, {1, [][]int{{0}}, 1, api.OK}, {16, [][]int{all}, 1, api.OK},
		{16, slices.Collect(slices.Chunk(all, 1)), 16, api.OK}, {3, append(make([][]int, 15), []int{2, 0, 1}), 1, api.OK},
		{0, nil, 0, api.ErrRange}, {17, [][]int{append(slices.Clone(all), 16)}, 0, api.ErrRange}, {-1, nil, 0, api.ErrRange}, {smallest, nil, 0, api.ErrRange}, {greatest, make([][]int, 17), 0, api.ErrRange},
		{2, append(make([][]int, 16), []int{0, 1}), 0, api.ErrLarge}, {2, make([][]int, 17), 0, api.ErrLarge}, {2, append(make([][]int, 16), []int{5}), 0, api.ErrLarge},
		{2, [][]int{{2}}, 0, api.ErrMissing}, {2, [][]int{{-1}}, 0, api.ErrMissing}, {2, [][]int{{0}, {1, smallest}}, 0, api.ErrMissing}, {2, [][]int{{0, 1}, {greatest}}, 0, api.ErrMissing}, {2, [][]int{{0, 0}, {2}}, 0, api.ErrDouble},
		{2, [][]int{{0}, {0, 1}}, 0, api.ErrDouble}, {2, [][]int{{0, 0, 1}}, 0, api.ErrDouble}, {2, [][]int{{0, 1}, {}, {1}}, 0, api.ErrDouble}, {2, [][]int{{0, 2, 0}}, 0, api.ErrMissing}, {3, [][]int{{0, 0}}, 0, api.ErrDouble}, {2, [][]int{{0, 2}, {0}}, 0, api.ErrMissing},
		{2, [][]int{{1}}, 0, api.ErrGap}, {2, [][]int{{0}, {}}, 0, api.ErrGap}, {1, nil, 0, api.ErrGap}, {1, [][]int{{}}, 0, api.ErrGap}, {16, [][]int{all[:15]}, 0, api.ErrGap}, {16, [][]int{all[1:]}, 0, api.ErrGap},
	} {
		n, e := focus.CheckDeal(x.elements, x.deal)
		want(t, "CheckDeal of "+shown(x.elements)+shown(x.deal), n, e, x.workers, x.right)
	}
}

func TestP5_4Dealt(t *testing.T) {
	for _, deal := range [][][]int{{{0}}, {{}, {0}}, {nil, {0}, nil}, append(make([][]int, 15), []int{0})} {
		l, e := focus.Dealt(one(), deal)
		want(t, "Dealt", l, e, []complex128{complex(30, -20)}, api.OK)
	}
	right, _ := rightImage(two(), allPairs([]int{0, 1}, []int{0, 1}))
	for _, deal := range [][][]int{{{0, 1}}, {{1, 0}}, {{1}, {0}}, {{0}, {}, {1}}} {
		l, e := focus.Dealt(two(), deal)
		want(t, "Dealt of two", l, e, right, api.OK)
	}
}

func TestP5_4DealtErrors(t *testing.T) {
	for _, x := range wrongTasks() {
		for _, deal := range [][][]int{{{0, 1}}, {{0, 1, 2}}, nil, make([][]int, 17)} {
			l, e := focus.Dealt(x.t, deal)
			want(t, "Dealt of a wrong task", l, e, nil, x.right)
		}
	}
	for _, x := range []struct {
		deal  [][]int
		right api.Errno
	}{
		{nil, api.ErrGap}, {[][]int{{0}}, api.ErrGap}, {[][]int{{0}, {1}, {1}}, api.ErrDouble}, {[][]int{{0, 1, 2}}, api.ErrMissing}, {append(make([][]int, 16), []int{0, 1}), api.ErrLarge},
	} {
		l, e := focus.Dealt(two(), x.deal)
		want(t, "Dealt of a wrong deal", l, e, nil, x.right)
	}
}
