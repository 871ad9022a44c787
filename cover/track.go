package cover

import (
	"slices"

	"couplant/api"
)

// Scanned returns the ranges of positions of a track that are surely scanned.
func Scanned(t api.CoverTrack, readings []int) ([]api.Range, api.Errno) {
	if e := readingsError(t, readings); e != api.OK {
		return nil, e
	}
	return scanned(t, readings), api.OK
}

// Anew returns the ranges of positions of a track that must be scanned anew.
func Anew(t api.CoverTrack, readings []int) ([]api.Range, api.Errno) {
	if e := readingsError(t, readings); e != api.OK {
		return nil, e
	}
	var ranges []api.Range
	next := t.From
	for _, r := range scanned(t, readings) {
		if next < r.Lo {
			ranges = append(ranges, api.Range{Lo: next, Hi: r.Lo - 1})
		}
		next = r.Hi + 1
	}
	if next <= t.To {
		ranges = append(ranges, api.Range{Lo: next, Hi: t.To})
	}
	return ranges, api.OK
}

// scanned is the ranges of a track that are surely scanned, if the readings are right.
func scanned(t api.CoverTrack, readings []int) []api.Range {
	var ranges []api.Range
	sure := t.Reach - t.Slip
	for _, p := range slices.Sorted(slices.Values(readings)) {
		r := api.Range{Lo: max(t.From, p-sure), Hi: min(t.To, p+sure)}
		last := len(ranges) - 1
		switch {
		case r.Lo > r.Hi:
		case last >= 0 && r.Lo <= ranges[last].Hi+1:
			ranges[last].Hi = r.Hi
		default:
			ranges = append(ranges, r)
		}
	}
	return ranges
}
