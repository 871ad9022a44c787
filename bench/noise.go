package bench

import (
	"couplant/api"
	"couplant/base"
)

const (
	noiseFactor = 1103515245
	noiseMore   = 12345
	noiseCycle  = 1 << 31
	noiseDrop   = 65536 // the lowest bits repeat too early
)

// Noise returns the first numbers of the noise of a seed.
func Noise(seed, size, count int) ([]int, api.Errno) {
	e := base.FirstOf(
		base.RangeError(seed, 0, noiseCycle-1),
		base.RangeError(size, 0, api.MaxNoiseSize),
		base.RangeError(count, 0, api.MaxNoise),
	)
	if e != api.OK {
		return nil, e
	}
	var l []int
	x := seed
	for range count {
		x = (noiseFactor*x + noiseMore) % noiseCycle
		l = append(l, x/noiseDrop%(2*size+1)-size)
	}
	return l, api.OK
}

// Noisy returns a full matrix with noise added.
func Noisy(m api.FullMatrix, seed, size int) (api.FullMatrix, api.Errno) {
	if e := matrixError(m); e != api.OK {
		return api.FullMatrix{}, e
	}
	noise, e := Noise(seed, size, len(m.Buffer))
	if e != api.OK {
		return api.FullMatrix{}, e
	}
	other := api.FullMatrix{Elements: m.Elements}
	for n, sample := range m.Buffer {
		sum := int(sample) + noise[n]
		if e := loudError(sum); e != api.OK {
			return api.FullMatrix{}, e
		}
		other.Buffer = append(other.Buffer, float32(sum))
	}
	return other, api.OK
}
