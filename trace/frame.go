package trace

import (
	"strings"

	"couplant/api"
	"couplant/base"
)

const (
	frameMark    = "CP" // the first two bytes of a frame
	versionAt    = 2
	elementsAt   = 3
	positionAt   = 4
	positionSize = 4
	headSize     = positionAt + positionSize // bytes ahead of the samples
	sampleSize   = 2
	checkSize    = 2
)

// FormatFrame returns the bytes of a frame.
func FormatFrame(f api.TraceFrame) (string, api.Errno) {
	if e := base.FirstOf(positionError(f.Position), matrixError(f.Matrix)); e != api.OK {
		return "", e
	}
	bytes := append([]byte(frameMark), api.FrameVersion, byte(f.Matrix.Elements))
	bytes = withNumber(bytes, f.Position, positionSize)
	for _, sample := range f.Matrix.Buffer {
		bytes = withNumber(bytes, int(sample), sampleSize)
	}
	return string(withNumber(bytes, checkOf(string(bytes)), checkSize)), api.OK
}

// ParseFrame returns the frame with these bytes.
func ParseFrame(s string) (api.TraceFrame, api.Errno) {
	if e := bytesError(s); e != api.OK {
		return api.TraceFrame{}, e
	}
	f := api.TraceFrame{Position: signed(s[positionAt:headSize])}
	f.Matrix.Elements = int(s[elementsAt])
	for at := headSize; at < len(s)-checkSize; at += sampleSize {
		f.Matrix.Buffer = append(f.Matrix.Buffer, float32(signed(s[at:at+sampleSize])))
	}
	if e := base.FirstOf(positionError(f.Position), matrixError(f.Matrix)); e != api.OK {
		return api.TraceFrame{}, e
	}
	return f, api.OK
}

// Frames returns the frames that stand one behind the other from the first byte on, and how many bytes they have.
func Frames(s string) ([]api.TraceFrame, int, api.Errno) {
	if len(s) > api.MaxFrames {
		return nil, 0, api.ErrLarge
	}
	var frames []api.TraceFrame
	rest := s
	for len(rest) >= headSize {
		size := min(len(rest), frameSize(int(rest[elementsAt])))
		f, e := ParseFrame(rest[:size])
		if e != api.OK {
			break
		}
		frames = append(frames, f)
		rest = rest[size:]
	}
	return frames, len(s) - len(rest), api.OK
}

// bytesError is the error of the bytes of a frame, whatever the numbers in them are.
func bytesError(s string) api.Errno {
	if len(s) < headSize || !strings.HasPrefix(s, frameMark) {
		return api.ErrSyntax
	}
	elements := int(s[elementsAt])
	e := base.FirstOf(
		base.Unless(s[versionAt] == api.FrameVersion, api.ErrKind),
		base.RangeError(elements, 1, api.MaxElements),
		base.Unless(len(s) == frameSize(elements), api.ErrShape),
	)
	if e != api.OK {
		return e
	}
	end := len(s) - checkSize
	return base.Unless(unsigned(s[end:]) == checkOf(s[:end]), api.ErrSum)
}

// positionError is the error of a position.
func positionError(position int) api.Errno {
	return base.RangeError(position, -api.MaxPart, api.MaxPart)
}

// frameSize is how many bytes a frame with so many elements has.
func frameSize(elements int) int {
	return headSize + elements*elements*api.TraceSize*sampleSize + checkSize
}

// checkOf is the check of the bytes in front of it.
func checkOf(s string) int {
	check := 1
	for at := range len(s) {
		check = (257*check + int(s[at]) + 1) % api.FramePrime
	}
	return check
}

// withNumber is bytes with a number of so many bytes behind them, its greatest byte first.
func withNumber(bytes []byte, n, size int) []byte {
	for place := size - 1; place >= 0; place-- {
		bytes = append(bytes, byte(n>>(8*place)))
	}
	return bytes
}

// unsigned is the number, from 0 on, with these bytes.
func unsigned(s string) int {
	n := 0
	for at := range len(s) {
		n = n<<8 + int(s[at])
	}
	return n
}

// signed is the number with these bytes if the greater half of all of them stands for numbers below 0.
func signed(s string) int {
	n, all := unsigned(s), 1<<(8*len(s))
	if n >= all/2 {
		n -= all
	}
	return n
}
