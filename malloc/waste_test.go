package malloc_test

import (
	"testing"

	"croft/api"
)

// worst does on a new heap what T4 says: k R / m calls Malloc(m), and Free of each block whose offset is no multiple of c; then Malloc(r), denied.
func worst(t *testing.T, config api.Config, k, m, r uint64) {
	t.Helper()
	h := newHeap(t, config)
	c := max(r, 4096)
	var list []uint64
	for range k * regionBytes(config) / m {
		p, e := h.Malloc(m, false)
		if e != api.OK {
			t.Fatalf("Malloc(%d): %v", m, e)
		}
		list = append(list, p)
	}
	for _, p := range list {
		if (p-config.Base)%c == 0 {
			continue
		}
		if e := h.Free(p); e != api.OK {
			t.Fatalf("Free(%d): %v", p, e)
		}
	}
	p, e := h.Malloc(r, true)
	if p != 0 || e != api.ENOMEM {
		t.Errorf("%+v: Malloc(%d), denied, over blocks of %d: %d, %v", config, r, m, p, e)
	}
	if s := h.Stats(); s.H != k*regionBytes(config) || c*s.L != m*s.H {
		t.Errorf("%+v: the size %d over blocks of %d: %+v", config, r, m, s)
	}
}

// T4: both bounds are met with equality, for every number of regions and every size. (That they hold is asked wherever the owner of sound_test.go gets ENOMEM.)
func TestWorst(t *testing.T) {
	for order := range 4 {
		c := api.Config{Base: 1 << 20, Limit: 3, Order: order}
		for k := range uint64(3) {
			for r := uint64(16); r <= regionBytes(c); r *= 2 {
				m := uint64(16)
				if r == 16 {
					m = 32
				}
				worst(t, c, k+1, m, r)
				worst(t, c, k+1, 4096, r)
			}
		}
	}
}

// T4: the same of the greatest heaps.
func TestWorstOfGreat(t *testing.T) {
	for order := range 9 {
		limit := min(64, 1024>>order)
		c := api.Config{Base: 1 << 20, Limit: limit, Order: order}
		for r := uint64(16); r <= regionBytes(c); r *= 4 {
			worst(t, c, uint64(limit), 4096, r)
		}
	}
	great := api.Config{Base: 1 << 20, Limit: 4, Order: 8}
	worst(t, great, 1, 16, 1<<20)
	worst(t, great, 4, 32, 16)
}
