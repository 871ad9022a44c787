package bench

import (
	"couplant/api"
	"couplant/base"
	"couplant/ray"
)

// array is an array that is right.
type array api.BenchArray

// EchoAt returns the echo of a place for a pair.
func EchoAt(a api.BenchArray, at api.Spot, pair [2]int) (int, api.Errno) {
	if e := echoError(a, at, pair); e != api.OK {
		return 0, e
	}
	return array(a).echo(at, pair), api.OK
}

// EchoRange returns the sum of the least times to a place and back from it.
func EchoRange(a api.BenchArray, at api.Spot, pair [2]int) (api.Range, api.Errno) {
	if e := echoError(a, at, pair); e != api.OK {
		return api.Range{}, e
	}
	return ray.EchoTime(api.RayEcho{
		Out: a.Out, Back: a.Back,
		From: a.Elements[pair[0]], At: at, To: a.Elements[pair[1]],
	})
}

// SampleOf returns the sample number of a place for a pair.
func SampleOf(a api.BenchArray, at api.Spot, pair [2]int) (int, api.Errno) {
	if e := echoError(a, at, pair); e != api.OK {
		return 0, e
	}
	return array(a).sampleOf(at, pair), api.OK
}

// pairs yields all pairs, by firings, then by receivers.
func (a array) pairs(yield func(pair [2]int) bool) {
	for firing := range a.Elements {
		for receiver := range a.Elements {
			if !yield([2]int{firing, receiver}) {
				return
			}
		}
	}
}

// echo is the echo of a right place for a pair. Package ray has no errors for right ways.
func (a array) echo(at api.Spot, pair [2]int) int {
	out, _ := ray.RoundedTime(a.Out, a.Elements[pair[0]], at)
	back, _ := ray.RoundedTime(a.Back, a.Elements[pair[1]], at)
	return out + back
}

// sampleOf is the sample number of a right place for a pair.
func (a array) sampleOf(at api.Spot, pair [2]int) int {
	return base.Rounded(a.echo(at, pair)-a.Times.First, a.Times.Step)
}
