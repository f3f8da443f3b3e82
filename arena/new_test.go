package arena_test

import (
	"reflect"
	"testing"

	"croft/api"
	"croft/arena"
)

// P15.1: of each order: a chunk of 0, 1, R, R + 1, and all the other edges; the heap is left as it is, used or not.
func TestNew(t *testing.T) {
	for order := range 9 {
		c := config(order, 2)
		r := regionBytes(c)
		for _, used := range []bool{false, true} {
			h := newHeap(t, c)
			if used {
				h.Malloc(100, false)
			}
			ahead := h.Image()
			for _, chunk := range append(edges(), r/2, r-1, r, r+1, 2*r) {
				want := api.OK
				if chunk > r {
					want = api.ETOOBIG
				}
				if chunk == 0 {
					want = api.EINVAL
				}
				a, e := arena.New(h, chunk)
				if e != want || (a != nil) != (want == api.OK) {
					t.Fatalf("order %d: New(h, %d): %v, %v, not %v", order, chunk, a, e, want)
				}
			}
			if !reflect.DeepEqual(h.Image(), ahead) {
				t.Fatal("New has asked the heap")
			}
		}
	}
}

// P15.1: a new one has no chunks and no marks, and nothing is used.
func TestNewIsEmpty(t *testing.T) {
	h := newHeap(t, example())
	a := newArena(t, h, 1)
	wantsChunks(t, a)
	wantsUsed(t, a, 0)
	refusesRelease(t, a, h, append(noMarks(), 0, 1)...)
	unchanged(t, "Reset", a, h, a.Reset)
	refusesRelease(t, a, h, append(noMarks(), 0, 1)...)
	wantsMark(t, a, 0)
	if got := h.Stats(); got != (api.Stats{}) {
		t.Errorf("the heap's Stats: %+v", got)
	}
}

// P15.1: the least and the greatest chunk that may be: what the heap is asked for.
func TestLeastAndGreatestChunk(t *testing.T) {
	for order := range 9 {
		c := config(order, 4)
		r := regionBytes(c)
		h := newHeap(t, c)
		small, great := newArena(t, h, 1), newArena(t, h, r)
		wants(t, "small", told(small.Alloc(1, 1, false)), answer{c.Base, api.OK})
		wantsChunks(t, small, api.Block{P: c.Base, Size: 16})
		wants(t, "great", told(great.Alloc(1, 1, false)), answer{c.Base + r, api.OK})
		wantsChunks(t, great, api.Block{P: c.Base + r, Size: r})
		takesAt(t, great, r-1, 1, c.Base+r+1)
		wants(t, "great, full", told(great.Alloc(1, 1, false)), answer{c.Base + 2*r, api.OK})
		takesAt(t, small, 15, 1, c.Base+1)
		takesAt(t, small, 1, 1, c.Base+16)
		wantsChunks(t, small, api.Block{P: c.Base, Size: 16}, api.Block{P: c.Base + 16, Size: 16})
	}
}

// P15.1, P15.2: heaps at the edges of what a Config may be: the lowest, the highest, the one with most pages.
func TestHeapsAtTheEdges(t *testing.T) {
	for _, c := range []api.Config{
		{Base: 4096, Limit: 64, Order: 0}, {Base: 1 << 20, Limit: 4, Order: 8},
		{Base: 1<<63 - 4096, Limit: 1, Order: 0}, {Base: 1<<63 - 1<<22, Limit: 4, Order: 8},
	} {
		r := regionBytes(c)
		h := newHeap(t, c)
		a := newArena(t, h, r)
		for i := range uint64(c.Limit) {
			from := c.Base + i*r
			wants(t, "a chunk", told(a.Alloc(r-1, 1, false)), answer{from, api.OK})
			refuses(t, a, h, 2, 1, true, api.ENOMEM)
			takesAt(t, a, 1, 1, from+r-1)
			for align := uint64(1); align <= r; align *= 2 {
				refuses(t, a, h, 1, align, true, api.ENOMEM)
				refuses(t, a, h, r, align, true, api.ENOMEM)
			}
		}
		refuses(t, a, h, 1, 1, false, api.ENOMEM)
		wantsUsed(t, a, r*uint64(c.Limit))
		if a.Held() != a.Used() {
			t.Errorf("%+v: all is held: %d", c, a.Held())
		}
	}
}
