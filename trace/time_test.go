package trace_test

import (
	"math/big"
	"testing"

	"couplant/api"
	"couplant/trace"
)

// early is a sampling from 1000 on, every 400.
func early() api.Sampling { return api.Sampling{First: 1000, Step: 400} }

// latest is the sampling with the greatest numbers.
func latest() api.Sampling { return api.Sampling{First: api.MaxTime, Step: api.MaxStep} }

func TestP3_6CheckSampling(t *testing.T) {
	for _, s := range []api.Sampling{early(), latest(), {Step: 1}, {First: 1, Step: 1}} {
		wantError(t, "CheckSampling", trace.CheckSampling(s), api.OK)
	}
	for _, s := range wrongSamplings() {
		wantError(t, "CheckSampling of a wrong sampling", trace.CheckSampling(s), api.ErrRange)
		time, e := trace.TimeOf(s, 0)
		want(t, "TimeOf of a wrong sampling", time, e, 0, api.ErrRange)
		sample, e := trace.Nearest(s, 1000)
		want(t, "Nearest of a wrong sampling", sample, e, 0, api.ErrRange)
		g, e := trace.GateOf(s, api.Range{Lo: 2, Hi: 1})
		want(t, "GateOf of a wrong sampling", g, e, api.TraceGate{}, api.ErrRange)
	}
}

func TestP3_6TimeOf(t *testing.T) {
	for _, x := range []struct {
		s             api.Sampling
		sample, right int
	}{
		{early(), 0, 1000}, {early(), 1, 1400}, {early(), 63, 26200},
		{latest(), 0, api.MaxTime}, {latest(), 63, api.MaxTime + 63*api.MaxStep}, {api.Sampling{Step: 1}, 0, 0}, {api.Sampling{Step: 1}, 63, 63},
	} {
		time, e := trace.TimeOf(x.s, x.sample)
		want(t, "TimeOf", time, e, x.right, api.OK)
	}
	for _, sample := range []int{-1, 64, smallest, greatest} {
		time, e := trace.TimeOf(early(), sample)
		want(t, "TimeOf of no sample", time, e, 0, api.ErrRange)
	}
}

func TestP3_6Nearest(t *testing.T) {
	odd := api.Sampling{First: 10, Step: 5}
	for _, x := range []struct {
		s           api.Sampling
		time, right int
		e           api.Errno
	}{
		{early(), 1199, 0, api.OK}, {early(), 1200, 1, api.OK}, {early(), 1000, 0, api.OK}, {early(), 800, 0, api.OK}, {early(), 799, 0, api.ErrNone},
		{early(), 26200, 63, api.OK}, {early(), 26399, 63, api.OK}, {early(), 26400, 0, api.ErrNone}, {early(), 0, 0, api.ErrNone},
		{early(), -api.MaxTime, 0, api.ErrNone}, {early(), api.MaxTime, 0, api.ErrNone},
		{odd, 8, 0, api.OK}, {odd, 7, 0, api.ErrNone}, {odd, 12, 0, api.OK}, {odd, 13, 1, api.OK}, {odd, 327, 63, api.OK}, {odd, 328, 0, api.ErrNone},
		{api.Sampling{Step: 2}, -1, 0, api.OK}, {api.Sampling{Step: 2}, -2, 0, api.ErrNone}, {api.Sampling{Step: 1}, -1, 0, api.ErrNone},
		{latest(), api.MaxTime, 0, api.OK}, {latest(), api.MaxTime - api.MaxStep/2, 0, api.OK}, {latest(), api.MaxTime - api.MaxStep/2 - 1, 0, api.ErrNone},
	} {
		sample, e := trace.Nearest(x.s, x.time)
		want(t, "Nearest", sample, e, x.right, x.e)
	}
	for _, time := range wrongTimes() {
		sample, e := trace.Nearest(early(), time)
		want(t, "Nearest of a wrong time", sample, e, 0, api.ErrRange)
	}
}

// TestP3_6NearestDefinition holds samples against exact shares, a half added and rounded down.
func TestP3_6NearestDefinition(t *testing.T) {
	d := newDice(11)
	for range 3000 {
		s := api.Sampling{First: d.from(0, 500), Step: d.from(1, 30)}
		time := d.from(-100, 2600)
		exact := big.NewRat(int64(time-s.First), int64(s.Step))
		exact.Add(exact, big.NewRat(1, 2))
		right, f := int(new(big.Int).Div(exact.Num(), exact.Denom()).Int64()), api.OK
		if right < 0 || right > 63 {
			right, f = 0, api.ErrNone
		}
		sample, e := trace.Nearest(s, time)
		want(t, "Nearest", sample, e, right, f)
	}
}

func TestP3_6GateOf(t *testing.T) {
	for _, x := range []struct {
		s      api.Sampling
		lo, hi int
		right  api.TraceGate
		e      api.Errno
	}{
		{early(), 1200, 2200, api.TraceGate{From: 1, To: 3}, api.OK},
		{early(), 1400, 2199, api.TraceGate{From: 1, To: 2}, api.OK},
		{early(), 1401, 1799, api.TraceGate{}, api.ErrNone},
		{early(), 1400, 1400, api.TraceGate{From: 1, To: 1}, api.OK},
		{early(), 1399, 1399, api.TraceGate{}, api.ErrNone},
		{early(), 0, 999, api.TraceGate{}, api.ErrNone},
		{early(), 0, 1000, api.TraceGate{}, api.OK},
		{early(), -api.MaxTime, api.MaxTime, api.TraceGate{To: 60}, api.OK},
		{early(), 25000, 30000, api.TraceGate{From: 60, To: 60}, api.OK},
		{early(), 25001, 30000, api.TraceGate{}, api.ErrNone},
		{early(), 25400, 26200, api.TraceGate{}, api.ErrNone},
		{early(), -5, -5, api.TraceGate{}, api.ErrNone},
		{early(), -api.MaxTime, -api.MaxTime, api.TraceGate{}, api.ErrNone},
		{early(), api.MaxTime, api.MaxTime, api.TraceGate{}, api.ErrNone},
		{latest(), -api.MaxTime, api.MaxTime, api.TraceGate{}, api.OK},
		{api.Sampling{Step: 1}, 0, 60, api.TraceGate{To: 60}, api.OK},
		{api.Sampling{Step: 1}, 61, 63, api.TraceGate{}, api.ErrNone},
		{early(), 2, 1, api.TraceGate{}, api.ErrOrder},
		{early(), 2200, 1200, api.TraceGate{}, api.ErrOrder},
		{early(), api.MaxTime, -api.MaxTime, api.TraceGate{}, api.ErrOrder},
	} {
		g, e := trace.GateOf(x.s, api.Range{Lo: x.lo, Hi: x.hi})
		want(t, "GateOf", g, e, x.right, x.e)
	}
	for _, time := range wrongTimes() {
		for _, times := range []api.Range{{Lo: time, Hi: 2000}, {Lo: 1000, Hi: time}, {Lo: time, Hi: time}} {
			g, e := trace.GateOf(early(), times)
			want(t, "GateOf of a wrong time", g, e, api.TraceGate{}, api.ErrRange)
		}
	}
}

func TestP3_6GateOfDefinition(t *testing.T) {
	d := newDice(12)
	for range 3000 {
		s := api.Sampling{First: d.from(0, 300), Step: d.from(1, 30)}
		times := api.Range{Lo: d.from(-50, 2300)}
		times.Hi = times.Lo + d.from(0, 100)
		right, f := api.TraceGate{}, api.ErrNone
		for k := 60; k >= 0; k-- {
			if time := s.First + k*s.Step; times.Lo <= time && time <= times.Hi {
				right.From = k
				if f == api.ErrNone {
					right.To, f = k, api.OK
				}
			}
		}
		g, e := trace.GateOf(s, times)
		want(t, "GateOf", g, e, right, f)
	}
}
