package dict_test

import (
	"testing"

	"croft/api"
)

// The table, line by line: the calls go on from one another.
func TestExample(t *testing.T) {
	x, h := begin(t, example())
	wantsLive(t, h, api.Block{P: 65536, Size: 64})

	sets(t, x, "a", "xy")
	wantsLive(t, h, api.Block{P: 65536, Size: 64}, api.Block{P: 65600, Size: 64})

	wantsGet(t, x, "a", "xy")
	wantsNone(t, x, h, "b")
	wantsAll(t, x, pair{"a", "xy"})

	sets(t, x, "a", "zw")
	sets(t, x, "b", "")
	sets(t, x, "a", "longer value, of more bytes")
	wantsAll(t, x, pair{"a", "longer value, of more bytes"}, pair{"b", ""})

	deletes(t, x, "a")
	wantsNone(t, x, h, "a")
	wantsAll(t, x, pair{"b", ""})
	x.Drop()
	wantsLive(t, h)
	wantsAll(t, x)

	if e := set(x, long("", 8200), "", false); e != api.ETOOBIG {
		t.Errorf("Set of a key of 8200 bytes: %v", e)
	}
	wantsLive(t, h)
}

// DOC.md, the ninth example of the whole.
func TestExampleOfTheWhole(t *testing.T) {
	x, h := begin(t, api.Config{Base: 65536, Limit: 4, Order: 0})
	sets(t, x, "k", "v")
	wantsGet(t, x, "k", "v")
	wantsLive(t, h, api.Block{P: 65536, Size: 64}, api.Block{P: 65600, Size: 64})
	x.Drop()
	wantsLive(t, h)
	if got, want := h.Stats(), (api.Stats{H: 4096, FreePages: 1}); got != want {
		t.Errorf("the heap's Stats: %+v, not %+v", got, want)
	}
}
