package focus

import (
	"sync"

	"couplant/api"
	"couplant/base"
)

// Share returns the image that has the pairs of some firings alone.
func Share(t api.FocusTask, firings []int) ([]complex128, api.Errno) {
	e := base.FirstOf(
		taskError(t),
		firingsError(firings, len(t.Array.Elements), map[int]bool{}),
	)
	if e != api.OK {
		return nil, e
	}
	x := taskOf(t)
	return x.share(x.flights(), firings), api.OK
}

// Merged returns the sum of images.
func Merged(l [][]complex128) ([]complex128, api.Errno) {
	if e := imagesError(l); e != api.OK {
		return nil, e
	}
	return sumOf(l), api.OK
}

// CheckDeal accepts a deal, and returns how many workers have a firing.
func CheckDeal(elements int, deal [][]int) (int, api.Errno) {
	e := base.FirstOf(
		base.RangeError(elements, 1, api.MaxElements),
		base.Unless(len(deal) <= api.MaxFocusShares, api.ErrLarge),
	)
	if e != api.OK {
		return 0, e
	}
	workers, stood := 0, map[int]bool{}
	for _, firings := range deal {
		if e := firingsError(firings, elements, stood); e != api.OK {
			return 0, e
		}
		if len(firings) > 0 {
			workers++
		}
	}
	if len(stood) < elements {
		return 0, api.ErrGap
	}
	return workers, api.OK
}

// Dealt returns the image, made by a worker for each list of firings.
func Dealt(t api.FocusTask, deal [][]int) ([]complex128, api.Errno) {
	if e := taskError(t); e != api.OK {
		return nil, e
	}
	if _, e := CheckDeal(len(t.Array.Elements), deal); e != api.OK {
		return nil, e
	}
	x := taskOf(t)
	flights := x.flights()
	shares := make([][]complex128, len(deal))
	var workers sync.WaitGroup
	for n, firings := range deal {
		workers.Go(func() { shares[n] = x.share(flights, firings) })
	}
	workers.Wait()
	return sumOf(shares), api.OK
}

// share is the share of some firings, all cells having their flights.
func (t task) share(flights []flight, firings []int) []complex128 {
	values, _ := t.sums(flights, pairsOf(firings, t.elements()))
	return values
}

// sumOf is the sum of one image or more, all of as many values. It has no rounding, so that their order does not
// matter, and no -0, as it begins with 0.
func sumOf(l [][]complex128) []complex128 {
	sum := make([]complex128, len(l[0]))
	for _, image := range l {
		for n, value := range image {
			sum[n] += value
		}
	}
	return sum
}
