package arena_test

import (
	"reflect"
	"slices"
	"testing"

	"croft/api"
	"croft/arena"
	"croft/malloc"
)

// laid is an arena with chunks of these sizes, blocks of others between them, and three heaps of the same requests, on which nothing was freed yet.
func laid(t *testing.T, c api.Config, sizes []uint64) (a *arena.Arena, h *malloc.Heap, twins []*malloc.Heap) {
	t.Helper()
	h = newHeap(t, c)
	a = newArena(t, h, 1)
	for range 3 {
		twins = append(twins, newHeap(t, c))
	}
	for i, size := range sizes {
		var p uint64
		if i%4 == 3 {
			p, _ = h.Malloc(size, false)
		} else {
			p = takes(t, a, size, 1)
		}
		for _, twin := range twins {
			wants(t, "the twin's", told(twin.Malloc(size, false)), answer{p, api.OK})
		}
	}
	return a, h, twins
}

// givesBack frees chunks on the twins: the last one first, the first one first, and rising.
func givesBack(t *testing.T, twins []*malloc.Heap, chunks []api.Block) {
	t.Helper()
	var last []uint64
	for _, c := range chunks {
		last = append(last, c.P)
	}
	first, rising := slices.Clone(last), slices.Sorted(slices.Values(last))
	slices.Reverse(last)
	for way, order := range [][]uint64{last, first, rising} {
		for _, p := range order {
			wantsError(t, "the twin's Free", twins[way].Free(p), api.OK)
		}
	}
}

// drawnSizes tells sizes of which each piece needs a chunk for itself.
func drawnSizes(row *numbers) []uint64 {
	var sizes []uint64
	for range 10 + row.below(40) {
		sizes = append(sizes, 16<<oneOf(row, 0, 1, 1, 1, 7, 8, 8, 9))
	}
	return sizes
}

// P15.3: by Release and by Reset the last chunk goes back first: seen by the heap as a whole, and by where later blocks lie, which is elsewhere if they go back in another order.
func TestLastGoesFirst(t *testing.T) {
	elsewhere := [3]int{}
	for seed := range 80 {
		row := numbers(seed)
		a, h, twins := laid(t, config(4, 8), drawnSizes(&row))
		if seed%2 == 0 {
			givesBack(t, twins, a.Chunks())
			a.Reset()
		} else {
			from := a.Mark()
			kept := len(a.Chunks())
			for _, size := range drawnSizes(&row)[:10] {
				p := takes(t, a, size, 4096) // at a page's beginning: the top never has room there
				for _, twin := range twins {
					wants(t, "the twin's", told(twin.AlignedAlloc(4096, size, false)), answer{p, api.OK})
				}
			}
			givesBack(t, twins, a.Chunks()[kept:])
			releases(t, a, from)
		}
		if !reflect.DeepEqual(h.Image(), twins[0].Image()) {
			t.Fatalf("seed %d: the heap is another than if the last one goes first", seed)
		}
		for range 30 {
			size := uint64(16) << oneOf(&row, 0, 1, 1, 7, 8, 9)
			got := told(h.Malloc(size, false))
			for way, twin := range twins {
				if told(twin.Malloc(size, false)) != got {
					elsewhere[way]++
				}
			}
		}
	}
	if elsewhere[0] != 0 || elsewhere[1] == 0 || elsewhere[2] == 0 {
		t.Errorf("later blocks lie elsewhere: %v", elsewhere)
	}
}

// P15.3: the same of three cells alone: what was freed last is handed out first, so they come again as they came.
func TestLastGoesFirstOfCells(t *testing.T) {
	for _, way := range []string{"Release", "Reset"} {
		h := newHeap(t, example())
		h.Malloc(64, false)
		a := newArena(t, h, 64)
		mark := a.Mark()
		list := takesMany(t, a, 64, 3)
		if way == "Reset" {
			a.Reset()
		} else {
			releases(t, a, mark)
		}
		for _, p := range list {
			wants(t, way, told(h.Malloc(64, true)), answer{p, api.OK})
		}
	}
}

// P15.3: as many chunks as a heap can have go back at once.
func TestAllGoBack(t *testing.T) {
	h := newHeap(t, config(8, 4))
	a := newArena(t, h, 1)
	wantsMark(t, a, 0)
	for i := range 1 << 18 {
		if _, e := a.Alloc(16, 1, false); e != api.OK {
			t.Fatal(i, e)
		}
	}
	wants(t, "full", told(a.Alloc(16, 1, false)), answer{0, api.ENOMEM})
	if a.Used() != 1<<22 || a.Held() != 1<<22 || len(a.Chunks()) != 1<<18 {
		t.Errorf("%d used, %d held in %d chunks", a.Used(), a.Held(), len(a.Chunks()))
	}
	releases(t, a, 0)
	wantsLive(t, h)
	wantsChunks(t, a)
	takesAt(t, a, 1<<20, 1<<20, 1<<32)
}
