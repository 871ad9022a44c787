// Package base is what the layers share: errors in their order, and whole numbers.
package base

import (
	"slices"

	"couplant/api"
)

// FirstOf returns the first of some errors, or OK if all of them are OK.
func FirstOf(errors ...api.Errno) api.Errno {
	for _, e := range errors {
		if e != api.OK {
			return e
		}
	}
	return api.OK
}

// Unless returns an error unless a condition holds.
func Unless(holds bool, e api.Errno) api.Errno {
	if holds {
		return api.OK
	}
	return e
}

// FirstIn returns the number of the first element of a list that has an error, and this; or 0 and OK.
func FirstIn(length int, errorAt func(n int) api.Errno) (int, api.Errno) {
	for n := range length {
		if e := errorAt(n); e != api.OK {
			return n, e
		}
	}
	return 0, api.OK
}

// LengthError is the error of a list that is to have one element at least, and so many at most.
func LengthError(length, most int) api.Errno {
	return FirstOf(
		Unless(length > 0, api.ErrShape),
		Unless(length <= most, api.ErrLarge),
	)
}

// RangeError is the error of a number that is to be from least to most.
func RangeError(n, least, most int) api.Errno {
	return Unless(Within(n, least, most), api.ErrRange)
}

// EndsError is the error of a range whose ends are to be from least to most.
func EndsError(r api.Range, least, most int) api.Errno {
	return FirstOf(
		RangeError(r.Lo, least, most),
		RangeError(r.Hi, least, most),
		Unless(r.Lo <= r.Hi, api.ErrOrder),
	)
}

// NameError is the error of a name.
func NameError(name string) api.Errno { return Unless(isName(name), api.ErrName) }

// ExistsError is the error of an element of a list whose name an earlier one has.
func ExistsError[T any](l []T, n int, nameOf func(x T) string) api.Errno {
	hasName := func(x T) bool { return nameOf(x) == nameOf(l[n]) }
	return Unless(!slices.ContainsFunc(l[:n], hasName), api.ErrExists)
}

// PlaceError is the error of a place.
func PlaceError(p api.Spot) api.Errno {
	return FirstOf(
		RangeError(p.X, -api.MaxPlace, api.MaxPlace),
		RangeError(p.Z, -api.MaxPlace, api.MaxPlace),
	)
}

// ElementsError is the error of the elements of an array in the wedge, and the number of a wrong one, or 0.
func ElementsError(elements []api.Spot) (int, api.Errno) {
	if e := LengthError(len(elements), api.MaxElements); e != api.OK {
		return 0, e
	}
	return FirstIn(len(elements), func(n int) api.Errno {
		return FirstOf(PlaceError(elements[n]), Unless(elements[n].Z < 0, api.ErrKind))
	})
}

// MissingError is the error of a number of a list, if this has so many elements.
func MissingError(n, elements int) api.Errno {
	return Unless(Within(n, 0, elements-1), api.ErrMissing)
}

// NumbersError is the error of numbers of a list that are to ascend, if this has so many elements.
func NumbersError(l []int, elements int) api.Errno {
	_, e := FirstIn(len(l), func(n int) api.Errno {
		return FirstOf(MissingError(l[n], elements), RiseError(l, n))
	})
	return e
}

// PairError is the error of a pair of elements, if there are so many elements.
func PairError(pair [2]int, elements int) api.Errno {
	return FirstOf(MissingError(pair[0], elements), MissingError(pair[1], elements))
}

// DepthError is the error of a depth that is to be in a plate, and not at its walls.
func DepthError(z, thick int) api.Errno {
	return Unless(0 < z && z < thick, api.ErrBreak)
}

// PlateError is the error of a place that is to be in a plate.
func PlateError(p api.Spot, thick int) api.Errno {
	return FirstOf(PlaceError(p), DepthError(p.Z, thick))
}

// SpeedError is the error of a speed.
func SpeedError(speed int) api.Errno {
	return RangeError(speed, api.LeastSpeed, api.MaxSpeed)
}

// FormError is the error of a fraction that is to be in lowest terms, with Den above 0.
func FormError(f api.Frac) api.Errno {
	return Unless(f.Den > 0 && CommonDivisor(f.Num, f.Den) == 1, api.ErrForm)
}

// RiseError is the error of an element of a list of numbers that is to be greater than the one before.
func RiseError(l []int, n int) api.Errno {
	return Unless(n == 0 || l[n] > l[n-1], api.ErrOrder)
}
