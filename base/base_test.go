package base_test

import (
	"math"
	"slices"
	"strings"
	"testing"

	"couplant/api"
	"couplant/base"
)

const (
	greatest = int(^uint(0) >> 1)
	smallest = -greatest - 1
)

// want compares a result with the right one.
func want[T comparable](t *testing.T, what string, got, right T) {
	t.Helper()
	if got != right {
		t.Errorf("%s: %v; want %v", what, got, right)
	}
}

func TestErrors(t *testing.T) {
	want(t, "FirstOf nothing", base.FirstOf(), api.OK)
	want(t, "FirstOf", base.FirstOf(api.OK, api.ErrKind, api.ErrRange), api.ErrKind)
	want(t, "Unless it holds", base.Unless(true, api.ErrKind), api.OK)
	want(t, "Unless it does not", base.Unless(false, api.ErrKind), api.ErrKind)
	want(t, "LengthError of none", base.LengthError(0, 2), api.ErrShape)
	want(t, "LengthError of one", base.LengthError(1, 2), api.OK)
	want(t, "LengthError of the most", base.LengthError(2, 2), api.OK)
	want(t, "LengthError of too many", base.LengthError(3, 2), api.ErrLarge)
	for _, n := range []int{smallest, -4, 8, greatest} {
		want(t, "RangeError outside", base.RangeError(n, -3, 7), api.ErrRange)
	}
	for _, n := range []int{-3, 0, 7} {
		want(t, "RangeError inside", base.RangeError(n, -3, 7), api.OK)
	}
	l := []int{5, 6, 6, 4, 5}
	for n, right := range []api.Errno{api.OK, api.OK, api.ErrOrder, api.ErrOrder, api.OK} {
		want(t, "RiseError", base.RiseError(l, n), right)
	}
}

func TestEndsError(t *testing.T) {
	for _, r := range []api.Range{{Lo: -3, Hi: 7}, {Lo: 2, Hi: 2}, {Lo: -3, Hi: -3}, {Lo: 7, Hi: 7}} {
		want(t, "EndsError", base.EndsError(r, -3, 7), api.OK)
	}
	for _, r := range []api.Range{{Lo: -4, Hi: 7}, {Lo: -3, Hi: 8}, {Lo: 8, Hi: 7}, {Lo: 8, Hi: 9}, {Lo: -5, Hi: -4}, {Lo: 0, Hi: -4}, {Lo: smallest, Hi: greatest}, {Lo: greatest, Hi: smallest}} {
		want(t, "EndsError outside", base.EndsError(r, -3, 7), api.ErrRange)
	}
	want(t, "EndsError the other way round", base.EndsError(api.Range{Lo: 3, Hi: 2}, -3, 7), api.ErrOrder)
}

func TestNameError(t *testing.T) {
	for _, name := range []string{"A", "Z", "a", "z", "a-", "a0", "Z9-z", "abcdefghijkl", "a-----------"} {
		want(t, "NameError of "+name, base.NameError(name), api.OK)
	}
	for _, name := range []string{"", "-", "0", "9a", "-a", "abcdefghijklm", "a b", " a", "a ", "a\n", "a\t", "a_", "a.", "a+", "a,", "a/", "a:", "a@", "a[", "a`", "a{", "@", "[", "`", "{", "ä", "aä", "\xff", "a\x00"} {
		want(t, "NameError of "+name, base.NameError(name), api.ErrName)
	}
}

func TestExistsError(t *testing.T) {
	l := []string{"a", "b", "a", "", "B", "", "c"}
	itself := func(x string) string { return x }
	for n, right := range []api.Errno{api.OK, api.OK, api.ErrExists, api.OK, api.OK, api.ErrExists, api.OK} {
		want(t, "ExistsError", base.ExistsError(l, n, itself), right)
	}
	want(t, "ExistsError of another name", base.ExistsError(l, 1, func(string) string { return "x" }), api.ErrExists)
}

func TestFirstIn(t *testing.T) {
	for _, x := range []struct {
		l []api.Errno
		n int
		e api.Errno
	}{
		{nil, 0, api.OK},
		{[]api.Errno{api.OK, api.OK}, 0, api.OK},
		{[]api.Errno{api.ErrKind, api.ErrRange}, 0, api.ErrKind},
		{[]api.Errno{api.OK, api.ErrRange, api.ErrKind}, 1, api.ErrRange},
	} {
		n, e := base.FirstIn(len(x.l), func(n int) api.Errno { return x.l[n] })
		want(t, "the number of FirstIn", n, x.n)
		want(t, "the error of FirstIn", e, x.e)
	}
}

func TestPlacesAndSpeeds(t *testing.T) {
	for _, n := range []int{smallest, -100001, 100001, greatest} {
		want(t, "PlaceError of X", base.PlaceError(api.Spot{X: n}), api.ErrRange)
		want(t, "PlaceError of Z", base.PlaceError(api.Spot{Z: n}), api.ErrRange)
	}
	for _, n := range []int{-100000, 0, 100000} {
		want(t, "PlaceError", base.PlaceError(api.Spot{X: n, Z: -n}), api.OK)
	}
	for speed, right := range map[int]api.Errno{smallest: api.ErrRange, 0: api.ErrRange, 499: api.ErrRange, 500: api.OK, 10000: api.OK, 10001: api.ErrRange} {
		want(t, "SpeedError", base.SpeedError(speed), right)
	}
}

func TestElementsError(t *testing.T) {
	in := api.Spot{X: 5, Z: -1}
	for _, x := range []struct {
		l []api.Spot
		n int
		e api.Errno
	}{
		{nil, 0, api.ErrShape},
		{make([]api.Spot, 17), 0, api.ErrLarge},
		{[]api.Spot{in}, 0, api.OK},
		{[]api.Spot{in, in, in, in, in, in, in, in, in, in, in, in, in, in, in, {X: 100000, Z: -100000}}, 0, api.OK},
		{[]api.Spot{in, {X: 100001}, {}}, 1, api.ErrRange},
		{[]api.Spot{in, in, {}, {X: 100001}}, 2, api.ErrKind},
		{[]api.Spot{{X: 5, Z: 100000}}, 0, api.ErrKind},
	} {
		n, e := base.ElementsError(x.l)
		want(t, "the number of ElementsError", n, x.n)
		want(t, "the error of ElementsError", e, x.e)
	}
}

func TestPairs(t *testing.T) {
	for n, right := range map[int]api.Errno{smallest: api.ErrMissing, -1: api.ErrMissing, 0: api.OK, 2: api.OK, 3: api.ErrMissing, greatest: api.ErrMissing} {
		want(t, "MissingError", base.MissingError(n, 3), right)
		want(t, "PairError of the first one", base.PairError([2]int{n, 1}, 3), right)
		want(t, "PairError of the second one", base.PairError([2]int{1, n}, 3), right)
	}
	want(t, "MissingError of none", base.MissingError(0, 0), api.ErrMissing)
}

func TestNumbersError(t *testing.T) {
	for _, x := range []struct {
		l     []int
		right api.Errno
	}{
		{nil, api.OK}, {[]int{0, 1, 2}, api.OK}, {[]int{2}, api.OK},
		{[]int{3}, api.ErrMissing}, {[]int{-1}, api.ErrMissing}, {[]int{1, 1}, api.ErrOrder}, {[]int{1, 0}, api.ErrOrder},
		{[]int{1, -1}, api.ErrMissing}, {[]int{1, 1, 3}, api.ErrOrder}, {[]int{0, 3, 3}, api.ErrMissing},
	} {
		want(t, "NumbersError", base.NumbersError(x.l, 3), x.right)
	}
}

func TestPlates(t *testing.T) {
	for z, right := range map[int]api.Errno{smallest: api.ErrBreak, -1: api.ErrBreak, 0: api.ErrBreak, 1: api.OK, 9: api.OK, 10: api.ErrBreak, 11: api.ErrBreak, greatest: api.ErrBreak} {
		want(t, "DepthError", base.DepthError(z, 10), right)
		want(t, "PlateError outside", base.PlateError(api.Spot{X: 100001, Z: z}, 10), api.ErrRange)
		if base.Within(z, -api.MaxPlace, api.MaxPlace) {
			want(t, "PlateError", base.PlateError(api.Spot{X: 100000, Z: z}, 10), right)
		}
	}
}

func TestNumber(t *testing.T) {
	for word, right := range map[string]int{"0": 0, "5": 5, "-5": -5, "10": 10, "999": 999, "-999": -999} {
		n, isNumber := base.Number(word, 3)
		want(t, "Number "+word, n, right)
		want(t, "whether it is one: "+word, isNumber, true)
	}
	for _, word := range []string{"", "-", "-0", "00", "05", "-05", "+5", "--5", " 5", "5 ", "5\n", "x", "5x", "0x1", "1_0", "1.0", "1e1", "1000", "-1000", "99999999999999999999", "\xff", "٣", "−5"} {
		n, isNumber := base.Number(word, 3)
		want(t, "Number "+word, n, 0)
		want(t, "whether it is one: "+word, isNumber, false)
	}
	n, isNumber := base.Number("-9223372036854775808", 19)
	want(t, "the smallest Number", n, smallest)
	want(t, "whether it is one", isNumber, true)
}

func TestNumbersInTexts(t *testing.T) {
	for _, x := range []struct {
		text   string
		right  []int
		isForm bool
	}{
		{"5", []int{5}, true}, {"0 -5 999", []int{0, -5, 999}, true},
		{"", nil, false}, {" ", nil, false}, {" 5", nil, false}, {"5 ", nil, false}, {"5  6", nil, false}, {"5 x", nil, false}, {"x 5", nil, false}, {"5 1000", nil, false}, {"5\t6", nil, false}, {"5\n", nil, false}, {"05", nil, false},
	} {
		l, isForm := base.Numbers(x.text, 3)
		want(t, "Numbers of "+x.text, slices.Equal(l, x.right), true)
		want(t, "whether they are some: "+x.text, isForm, x.isForm)
		l, isForm = base.NumbersBehind("word", "word "+x.text, 3)
		want(t, "NumbersBehind of "+x.text, slices.Equal(l, x.right), true)
		want(t, "whether they are some: "+x.text, isForm, x.isForm)
		if x.isForm {
			want(t, "Spaced", base.Spaced(x.right...), x.text)
		}
	}
	l, isForm := base.NumbersBehind("word", "word", 3)
	want(t, "NumbersBehind of none", len(l), 0)
	want(t, "whether there may be none", isForm, true)
	for _, text := range []string{"", "wor", "words", "words 5", "wor 5", " word 5", "5", "Word 5", "word5"} {
		l, isForm := base.NumbersBehind("word", text, 3)
		want(t, "NumbersBehind of "+text, len(l), 0)
		want(t, "whether it is some: "+text, isForm, false)
	}
	want(t, "Spaced of none", base.Spaced(), "")
	want(t, "Spaced of great ones", base.Spaced(smallest, greatest), "-9223372036854775808 9223372036854775807")
}

func TestWordAndNumbers(t *testing.T) {
	for _, x := range []struct {
		text, word string
		right      []int
		isForm     bool
	}{
		{"a 5", "a", []int{5}, true}, {" 5 -6", "", []int{5, -6}, true}, {"-5 6", "-5", []int{6}, true}, {"\xff\t\x00 0 999 7", "\xff\t\x00", []int{0, 999, 7}, true},
		{"", "", nil, false}, {"a", "", nil, false}, {"a ", "", nil, false}, {" ", "", nil, false}, {"5", "", nil, false}, {"a  5", "", nil, false}, {"a 5 ", "", nil, false}, {"a b 5", "", nil, false}, {"a 1000", "", nil, false},
		{"a\n 5", "", nil, false}, {"\na 5", "", nil, false}, {"\n 5", "", nil, false}, {"a 5\n", "", nil, false}, {"a 5\n6", "", nil, false}, {"a\t5", "", nil, false},
	} {
		word, l, isForm := base.WordAndNumbers(x.text, 3)
		want(t, "the word of "+x.text, word, x.word)
		want(t, "the numbers of "+x.text, slices.Equal(l, x.right), true)
		want(t, "whether it is one: "+x.text, isForm, x.isForm)
	}
}

func TestWordsOf(t *testing.T) {
	for line, right := range map[string][]base.Word{
		"": nil, "\n": nil, " \t ": nil, "\t\n": nil, "a": {{Text: "a", Column: 1}}, "ab\n": {{Text: "ab", Column: 1}}, " ab ": {{Text: "ab", Column: 2}},
		"a b": {{Text: "a", Column: 1}, {Text: "b", Column: 3}}, "\tabc \t de\n": {{Text: "abc", Column: 2}, {Text: "de", Column: 8}}, "a\r\n": {{Text: "a\r", Column: 1}},
		"\xff\x00\v a\u00a0b": {{Text: "\xff\x00\v", Column: 1}, {Text: "a\u00a0b", Column: 5}},
	} {
		words := base.WordsOf(line)
		want(t, "the words of "+line, slices.Equal(words, right), true)
	}
	want(t, "the end of a word", base.Word{Text: "abc", Column: 2}.End(), 5)
}

func TestLines(t *testing.T) {
	is := func(word string) func(string) (string, bool) {
		return func(line string) (string, bool) { return line, line == word }
	}
	l := base.LinesOf("a\nb\nb\nc")
	var one string
	var all []string
	want(t, "the line ahead of all", l.Next(), 1)
	want(t, "ReadOne of another line", base.ReadOne(l, &one, is("b")), false)
	want(t, "what it has read", one, "")
	want(t, "the line behind it", l.Next(), 1)
	want(t, "ReadOne", base.ReadOne(l, &one, is("a")), true)
	want(t, "what it has read", one, "a")
	want(t, "the line behind it", l.Next(), 2)
	want(t, "ReadAll of none", base.ReadAll(l, &all, is("a")), true)
	want(t, "what it has read", len(all), 0)
	want(t, "ReadAll", base.ReadAll(l, &all, is("b")), true)
	want(t, "what it has read", slices.Equal(all, []string{"b", "b"}), true)
	want(t, "the line behind it", l.Next(), 4)
	want(t, "ReadOne without a line feed", base.ReadOne(l, &one, is("c")), false)
	want(t, "whether that is the end", l.AtEnd(), false)
	l = base.LinesOf("a\n")
	base.ReadOne(l, &one, is("a"))
	want(t, "whether this is the end", l.AtEnd(), true)
	want(t, "ReadOne at the end", base.ReadOne(l, &one, is("")), false)
	want(t, "the line that is not there", l.Next(), 2)
	want(t, "the end of nothing", base.LinesOf("").AtEnd(), true)
}

func TestLineOf(t *testing.T) {
	want(t, "LineOf nothing", base.LineOf(), "\n")
	want(t, "LineOf a word", base.LineOf("a"), "a\n")
	want(t, "LineOf words", base.LineOf("a", "5 6", "c"), "a 5 6 c\n")
}

func TestReadMarked(t *testing.T) {
	long := strings.Repeat("a", api.MaxText)
	for _, x := range []struct {
		text  string
		lines []string
		mark  api.TextMark
		e     api.Errno
	}{
		{"", nil, api.TextMark{Line: 1, Column: 1}, api.ErrMissing}, {"\n", []string{"\n"}, api.TextMark{Line: 2, Column: 1}, api.ErrMissing}, {"a", []string{"a"}, api.TextMark{Line: 2, Column: 1}, api.ErrMissing},
		{"a\n\nb\n", []string{"a\n", "\n", "b\n"}, api.TextMark{Line: 4, Column: 1}, api.ErrMissing}, {"a\nend", []string{"a\n", "end"}, api.TextMark{}, api.OK}, {"end\n", []string{"end\n"}, api.TextMark{}, api.OK}, {"end\na", []string{"end\n", "a"}, api.TextMark{}, api.OK},
		{"a\n\nwrong\nend\nwrong\n", []string{"a\n", "\n", "wrong\n"}, api.TextMark{Line: 3, Column: 7}, api.ErrKind}, {"end\nwrong\n", []string{"end\n", "wrong\n"}, api.TextMark{Line: 2, Column: 7}, api.ErrKind},
		{long, []string{long}, api.TextMark{Line: 2, Column: 1}, api.ErrMissing}, {long + "a", nil, api.TextMark{}, api.ErrLarge},
	} {
		var lines []string
		isComplete := false
		mark, e := base.ReadMarked(x.text, func(line string) (int, api.Errno) {
			lines = append(lines, line)
			isComplete = isComplete || strings.HasPrefix(line, "end")
			if strings.HasPrefix(line, "wrong") {
				return 7, api.ErrKind
			}
			return 0, api.OK
		}, func() bool { return isComplete })
		want(t, "the lines of "+x.text, slices.Equal(lines, x.lines), true)
		want(t, "the mark of "+x.text, mark, x.mark)
		want(t, "the error of "+x.text, e, x.e)
	}
}

func TestIsWhole(t *testing.T) {
	for _, f := range []float64{0, math.Copysign(0, -1), 1, -7, 1e300, -math.MaxFloat64} {
		want(t, "IsWhole", base.IsWhole(f), true)
	}
	for _, f := range []float64{0.5, -0.5, 1e7 + 0.25, math.SmallestNonzeroFloat64, math.NaN(), math.Inf(1), math.Inf(-1)} {
		want(t, "IsWhole of a part", base.IsWhole(f), false)
	}
}

func TestFormError(t *testing.T) {
	for _, f := range []api.Frac{{Num: 0, Den: 1}, {Num: 3, Den: 2}, {Num: -1, Den: 2}, {Num: smallest, Den: 1}, {Num: smallest, Den: greatest}, {Num: greatest, Den: 1}} {
		want(t, "FormError", base.FormError(f), api.OK)
	}
	for _, f := range []api.Frac{{}, {Num: 1}, {Num: 0, Den: 2}, {Num: 2, Den: 4}, {Num: -2, Den: 4}, {Num: 1, Den: -2}, {Num: smallest, Den: 2}, {Num: smallest, Den: smallest}, {Num: greatest, Den: greatest}} {
		want(t, "FormError of a wrong form", base.FormError(f), api.ErrForm)
	}
}

func TestNumbers(t *testing.T) {
	for _, x := range []struct{ n, by, down, up, near int }{
		{0, 3, 0, 0, 0}, {7, 2, 3, 4, 4}, {-7, 2, -4, -3, -3}, {6, 2, 3, 3, 3}, {-6, 2, -3, -3, -3},
		{7, 3, 2, 3, 2}, {8, 3, 2, 3, 3}, {-7, 3, -3, -2, -2}, {-8, 3, -3, -2, -3}, {1, 2, 0, 1, 1}, {-1, 2, -1, 0, 0},
		{5, 1, 5, 5, 5}, {5, 10, 0, 1, 1}, {-5, 10, -1, 0, 0}, {4, 10, 0, 1, 0},
	} {
		want(t, "DividedDown", base.DividedDown(x.n, x.by), x.down)
		want(t, "DividedUp", base.DividedUp(x.n, x.by), x.up)
		want(t, "Rounded", base.Rounded(x.n, x.by), x.near)
	}
	for _, x := range [][5]int{
		{0, 0, 0, 0, 0}, {1, 0, 0, 1, 0}, {2, 3, 6, 1, 0}, {2, 3, 5, 1, 1}, {2, 3, 7, 1, -1}, {greatest, greatest, greatest, greatest, 0}, {greatest, greatest, greatest, greatest - 1, 1}, {greatest - 1, greatest, greatest, greatest, -1},
		{1 << 32, 1 << 32, 0, 5, 1}, {5, 0, 1 << 32, 1 << 32, -1}, {1 << 40, 1 << 40, 1 << 41, 1 << 39, 0}, {1<<40 + 1, 1<<40 - 1, 1 << 40, 1 << 40, -1}, {1 << 62, 4, 1, greatest, 1}, {1 << 62, 8, 1 << 62, 7, 1},
	} {
		want(t, "ComparedProducts", base.ComparedProducts(x[0], x[1], x[2], x[3]), x[4])
	}
	for n := range 10000 {
		down, up := base.RootDown(n), base.RootUp(n)
		want(t, "whether RootDown is right", down*down <= n && n < (down+1)*(down+1), true)
		want(t, "whether RootUp is right", up*up >= n && (up == 0 || (up-1)*(up-1) < n), true)
	}
	for _, r := range []int{100, 65536, 299999999, 500000000, 3037000498} {
		want(t, "RootDown of a square", base.RootDown(r*r), r)
		want(t, "RootUp of a square", base.RootUp(r*r), r)
		want(t, "RootDown below a square", base.RootDown(r*r-1), r-1)
		want(t, "RootUp above a square", base.RootUp(r*r+1), r+1)
	}
	want(t, "RootDown of the greatest number", base.RootDown(greatest), 3037000499)
	want(t, "RootUp of the greatest number", base.RootUp(greatest), 3037000500)
	want(t, "Size", base.Size(-5), 5)
	want(t, "Size", base.Size(5), 5)
	want(t, "CommonDivisor", base.CommonDivisor(-12, 18), 6)
	want(t, "CommonDivisor of 0", base.CommonDivisor(0, 7), 7)
	want(t, "Lowest", base.Lowest(-12, 18), api.Frac{Num: -2, Den: 3})
	want(t, "Lowest of 0", base.Lowest(0, 18), api.Frac{Num: 0, Den: 1})
}
