package tune_test

import (
	"strings"
	"testing"

	"couplant/api"
	"couplant/tune"
)

func TestP6_7FormatEvent(t *testing.T) {
	for _, x := range []struct {
		event api.TuneEvent
		right string
	}{
		{event(10, 1, 210), "10 1 210"}, {event(0, 0, 0), "0 0 0"}, {event(5, -1, -20), "5 -1 -20"}, {event(-5, 1234567890, -1234567890), "-5 1234567890 -1234567890"},
		{event(smallest, greatest, 0), "-9223372036854775808 9223372036854775807 0"},
	} {
		want(t, "FormatEvent", tune.FormatEvent(x.event), api.OK, x.right, api.OK)
	}
}

func TestP6_7ParseEvent(t *testing.T) {
	for text, right := range map[string]api.TuneEvent{
		"10 1 210": event(10, 1, 210), "0 0 0": {}, "-5 -1 -20": event(-5, -1, -20), "999999999 -999999999 123456789": event(999999999, -999999999, 123456789),
	} {
		x, e := tune.ParseEvent(text)
		want(t, "ParseEvent of "+text, x, e, right, api.OK)
	}
	for _, text := range []string{
		"", " ", "10", "10 1", "10 1 ", " 10 1 210", "10 1 210 ", "10  1 210", "10 1 210 5", "10 1 210\n", "10\t1 210", "10 1 x", "x 1 210", "10 x 210",
		"010 1 210", "10 -0 210", "10 +1 210", "10 1 -", "10 1 1.0", "1000000000 1 210", "10 -1000000000 210", "10 1 1000000000", "10 1 99999999999999999999", "10,1,210",
		"10 1 \xff", "10 1 0x5", "10 1 1_0", strings.Repeat("5 ", 60000),
	} {
		x, e := tune.ParseEvent(text)
		want(t, "ParseEvent of "+text[:min(len(text), 40)], x, e, api.TuneEvent{}, api.ErrSyntax)
	}
}
