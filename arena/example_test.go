package arena_test

import (
	"testing"

	"croft/api"
	"croft/arena"
)

// The table, its first line: what New answers.
func TestExampleNew(t *testing.T) {
	h := newHeap(t, example())
	for chunk, want := range map[uint64]api.Errno{0: api.EINVAL, 8193: api.ETOOBIG, 8192: api.OK} {
		if a, e := arena.New(h, chunk); e != want || (a != nil) != (e == api.OK) {
			t.Errorf("New(h, %d): %v, %v", chunk, a, e)
		}
	}
}

// The table, line by line: the calls go on from one another.
func TestExample(t *testing.T) {
	h := newHeap(t, example())
	a := newArena(t, h, 100)
	wants(t, "Alloc(1, 3)", told(a.Alloc(1, 3, false)), answer{0, api.EINVAL})
	wants(t, "Alloc(8193, 1)", told(a.Alloc(8193, 1, false)), answer{0, api.ETOOBIG})
	wants(t, "Alloc(1, 1), denied", told(a.Alloc(1, 1, true)), answer{0, api.ENOMEM})

	wants(t, "Alloc(1, 1)", told(a.Alloc(1, 1, false)), answer{65536, api.OK})
	takesAt(t, a, 8, 8, 65544)
	takesAt(t, a, 0, 1, 65552)
	first := api.Block{P: 65536, Size: 128}
	wantsChunks(t, a, first)
	wantsUsed(t, a, 10)

	wantsMark(t, a, 0)
	takesAt(t, a, 112, 1, 65664)
	takesAt(t, a, 111, 1, 65792)
	takesAt(t, a, 200, 64, 69632)
	wantsChunks(t, a, first, api.Block{P: 65664, Size: 128}, api.Block{P: 65792, Size: 128}, api.Block{P: 69632, Size: 256})
	wantsUsed(t, a, 433)

	wantsMark(t, a, 1)
	refusesRelease(t, a, h, 7)
	releases(t, a, 0)
	refusesRelease(t, a, h, 1, 0)
	wantsChunks(t, a, first)
	wantsUsed(t, a, 10)
	takesAt(t, a, 111, 1, 65553)
	takesAt(t, a, 1, 1, 65664)

	wantsMark(t, a, 2)
	a.Reset()
	refusesRelease(t, a, h, 2)
	wantsUsed(t, a, 0)
	wantsChunks(t, a)
	if got := h.Stats(); got != (api.Stats{H: 8192, FreePages: 2}) {
		t.Errorf("the heap's Stats: %+v", got)
	}
}
