package trace_test

import (
	"strings"
	"testing"

	"couplant/api"
	"couplant/trace"
)

// checked is bytes with their check behind them.
func checked(body string) string {
	check := 1
	for _, b := range []byte(body) {
		check = (257*check + int(b) + 1) % 65521
	}
	return body + string([]byte{byte(check / 256), byte(check % 256)})
}

// bodyOf is the bytes of a frame of one element, without its check: those of the position, then of the first samples.
func bodyOf(position, samples string) string {
	return "CP\x01\x01" + position + samples + strings.Repeat("\x00", 128-len(samples))
}

// frameOf is a frame of one element.
func frameOf(position int, samples ...float32) api.TraceFrame {
	f := api.TraceFrame{Position: position, Matrix: silence(1)}
	copy(f.Matrix.Buffer, samples)
	return f
}

// bytesOf is the bytes of a right frame.
func bytesOf(t *testing.T, f api.TraceFrame) string {
	t.Helper()
	s, e := trace.FormatFrame(f)
	wantError(t, "FormatFrame", e, api.OK)
	return s
}

func TestP3_7Bytes(t *testing.T) {
	for _, x := range []struct {
		f    api.TraceFrame
		body string
	}{
		{frameOf(0), bodyOf("\x00\x00\x00\x00", "")},
		{frameOf(-2), bodyOf("\xff\xff\xff\xfe", "")},
		{frameOf(0x01020304), bodyOf("\x01\x02\x03\x04", "")},
		{frameOf(1000000000), bodyOf("\x3b\x9a\xca\x00", "")},
		{frameOf(-1000000000), bodyOf("\xc4\x65\x36\x00", "")},
		{frameOf(0, -1, 300, 2047, -2047, 0, 1, -256), bodyOf("\x00\x00\x00\x00", "\xff\xff\x01\x2c\x07\xff\xf8\x01\x00\x00\x00\x01\xff\x00")},
	} {
		s, e := trace.FormatFrame(x.f)
		want(t, "FormatFrame", s, e, checked(x.body), api.OK)
		f, e := trace.ParseFrame(checked(x.body))
		want(t, "ParseFrame", f, e, x.f, api.OK)
	}
	s, e := trace.FormatFrame(frameOf(0, minus(), 0, minus()))
	want(t, "FormatFrame of -0", s, e, checked(bodyOf("\x00\x00\x00\x00", "")), api.OK)
	sixteen := api.TraceFrame{Position: 5, Matrix: spiked(16, [2]int{15, 15}, 63, -2)}
	right := checked("CP\x01\x10\x00\x00\x00\x05" + strings.Repeat("\x00", 32766) + "\xff\xfe")
	s, e = trace.FormatFrame(sixteen)
	want(t, "FormatFrame of 16 elements", s, e, right, api.OK)
	f, e := trace.ParseFrame(right)
	want(t, "ParseFrame of 16 elements", f, e, sixteen, api.OK)
}

func TestP3_7FormatFrameErrors(t *testing.T) {
	for _, position := range []int{-1000000001, 1000000001, 1 << 32, smallest, greatest} {
		for _, m := range []api.FullMatrix{silence(1), {}, {Elements: 1}, spiked(1, [2]int{0, 0}, 0, 0.5)} {
			s, e := trace.FormatFrame(api.TraceFrame{Position: position, Matrix: m})
			want(t, "FormatFrame of a wrong position", s, e, "", api.ErrRange)
		}
	}
}

func TestP3_7ParseFrameErrors(t *testing.T) {
	right := checked(bodyOf("\x00\x00\x00\x05", "\x00\x07"))
	wrongSum := right[:137] + string([]byte{right[137] ^ 1})
	for _, x := range []struct {
		s     string
		right api.Errno
	}{
		{"", api.ErrSyntax},
		{"CP", api.ErrSyntax},
		{"CP\x01\x01\x00\x00\x00", api.ErrSyntax},
		{"CP\x02\x00\x00\x00\x00", api.ErrSyntax},
		{"CX" + right[2:], api.ErrSyntax},
		{"XP" + right[2:], api.ErrSyntax},
		{"PC" + right[2:], api.ErrSyntax},
		{"cp" + right[2:], api.ErrSyntax},
		{"XX\x02\x00" + right[4:], api.ErrSyntax},
		{" " + right, api.ErrSyntax},
		{"CP\x02" + right[3:], api.ErrKind},
		{"CP\x00" + right[3:], api.ErrKind},
		{"CP\x81" + right[3:], api.ErrKind},
		{"CP\xff\x00" + right[4:], api.ErrKind},
		{"CP\xc2\x81" + right[4:], api.ErrKind},
		{"CP\x02\x00\x00\x00\x00\x00", api.ErrKind},
		{"CP\x01\x00" + right[4:], api.ErrRange},
		{"CP\x01\x11" + right[4:], api.ErrRange},
		{"CP\x01\xff" + right[4:], api.ErrRange},
		{"CP\x01\x00\x00\x00\x00\x00", api.ErrRange},
		{checked("CP\x01\x00\x00\x00\x00\x00"), api.ErrRange},
		{checked("CP\x01\x11\x00\x00\x00\x00" + strings.Repeat("\x00", 17*17*128)), api.ErrRange},
		{"CP\x01\x01\x00\x00\x00\x00", api.ErrShape},
		{right[:137], api.ErrShape},
		{right[:136], api.ErrShape},
		{right + "x", api.ErrShape},
		{right + right, api.ErrShape},
		{wrongSum + "x", api.ErrShape},
		{"CP\x01\x02" + right[4:], api.ErrShape},
		{wrongSum, api.ErrSum},
		{right[:136] + string([]byte{right[136] ^ 1, right[137]}), api.ErrSum},
		{right[:136] + string([]byte{right[137], right[136]}), api.ErrSum},
		{right[:9] + "\x08" + right[10:], api.ErrSum},
		{right[:4] + "\x01" + right[5:], api.ErrSum},
		{bodyOf("\x7f\xff\xff\xff", "") + "\x00\x00", api.ErrSum},
		{checked(bodyOf("\x7f\xff\xff\xff", "")), api.ErrRange},
		{checked(bodyOf("\x80\x00\x00\x00", "")), api.ErrRange},
		{checked(bodyOf("\x3b\x9a\xca\x01", "")), api.ErrRange},
		{checked(bodyOf("\xc4\x65\x35\xff", "")), api.ErrRange},
		{checked(bodyOf("\x00\x00\x00\x00", "\x08\x00")), api.ErrRange},
		{checked(bodyOf("\x00\x00\x00\x00", "\xf8\x00")), api.ErrRange},
		{checked(bodyOf("\x00\x00\x00\x00", "\x80\x00")), api.ErrRange},
		{checked(bodyOf("\x00\x00\x00\x00", strings.Repeat("\x00\x00", 63)+"\x7f\xff")), api.ErrRange},
	} {
		f, e := trace.ParseFrame(x.s)
		want(t, "ParseFrame of "+x.s[:min(8, len(x.s))], f, e, api.TraceFrame{}, x.right)
	}
}

// TestP3_7Sum changes each byte of a frame behind its head: the check tells it.
func TestP3_7Sum(t *testing.T) {
	right := checked(bodyOf("\x00\x00\x00\x05", "\x00\x07\xff\xfe"))
	for at := 4; at < len(right); at++ {
		other := []byte(right)
		other[at] ^= 1
		f, e := trace.ParseFrame(string(other))
		want(t, "ParseFrame with another byte", f, e, api.TraceFrame{}, api.ErrSum)
	}
}

func TestP3_7Frames(t *testing.T) {
	one, two := frameOf(-2, -1, 300), api.TraceFrame{Position: 7, Matrix: spiked(2, [2]int{0, 1}, 5, 7)}
	first, second := bytesOf(t, one), bytesOf(t, two)
	wrongSum := first[:137] + string([]byte{first[137] ^ 1})
	wrongSample := checked(bodyOf("\x00\x00\x00\x00", "\x08\x00"))
	for _, x := range []struct {
		s     string
		right []api.TraceFrame
		bytes int
	}{
		{"", nil, 0},
		{"C", nil, 0},
		{"xCP", nil, 0},
		{first, []api.TraceFrame{one}, 138},
		{first + first[:100], []api.TraceFrame{one}, 138},
		{first + second, []api.TraceFrame{one, two}, 138 + 522},
		{second + first + second, []api.TraceFrame{two, one, two}, 138 + 2*522},
		{second + first + "x" + second, []api.TraceFrame{two, one}, 138 + 522},
		{" " + first, nil, 0},
		{wrongSum + first, nil, 0},
		{wrongSample + first, nil, 0},
		{first + wrongSum + first, []api.TraceFrame{one}, 138},
		{first + wrongSample + first, []api.TraceFrame{one}, 138},
		{first + "CP\x02" + first[3:], []api.TraceFrame{one}, 138},
		{first + "CP\x01\x00\x00\x00\x00\x00", []api.TraceFrame{one}, 138},
		{first + checked("CP\x01\x00\x00\x00\x00\x00") + second, []api.TraceFrame{one}, 138},
		{first + "CP\x01\xff\x00\x00\x00\x00" + second, []api.TraceFrame{one}, 138},
		{first + "\xff\xff\xff\xff", []api.TraceFrame{one}, 138},
	} {
		l, bytes, e := trace.Frames(x.s)
		want(t, "Frames", l, e, x.right, api.OK)
		want(t, "the bytes of Frames", bytes, e, x.bytes, api.OK)
	}
}

func TestP3_7FramesLarge(t *testing.T) {
	first := bytesOf(t, frameOf(3, 5))
	most := strings.Repeat(first, 725)[:100000]
	l, bytes, e := trace.Frames(most)
	want(t, "how many Frames", len(l), e, 724, api.OK)
	want(t, "the bytes of Frames", bytes, e, 724*138, api.OK)
	for _, s := range []string{most + "x", most + most, strings.Repeat("x", 100001)} {
		l, bytes, e := trace.Frames(s)
		want(t, "Frames of too many bytes", l, e, nil, api.ErrLarge)
		want(t, "their bytes", bytes, e, 0, api.ErrLarge)
	}
	l, bytes, e = trace.Frames(strings.Repeat("x", 100000))
	want(t, "Frames of the most bytes", l, e, nil, api.OK)
	want(t, "their bytes", bytes, e, 0, api.OK)
}
