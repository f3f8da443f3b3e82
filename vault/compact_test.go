package vault_test

import (
	"bytes"
	"testing"

	"croft/api"
	"croft/image"
)

// P16.6: of a vault without blocks: nothing there; and all regions go when there are some.
func TestCompactOfNone(t *testing.T) {
	c := config(1, 3)
	v := newVault(t, c)
	unchanged(t, "Compact", v, func() { wantsCompact(t, v, 0) })
	v = full(t, c, 3)
	frees(t, v, 1, 2, 3, 4, 5, 6)
	wantsCompact(t, v, 3)
	wantsStats(t, v, api.Stats{})
	if !same(v.Image(), newHeap(t, c).Image()) {
		t.Error("the heap is no new one")
	}
	takes(t, v, 1, false, 7)
	wantsRegions(t, v, 1)
}

// P16.6: nothing to give back: 0 regions go, and yet all is laid anew. Twice in a row: nothing moves any more.
func TestCompactTwice(t *testing.T) {
	c := config(2, 2)
	v := full(t, c, 2)
	unchanged(t, "Compact of what lies so", v, func() { wantsCompact(t, v, 0) })
	frees(t, v, 1, 4, 6)
	for handle, b := range map[int]byte{2: 22, 3: 33, 5: 55, 7: 77, 8: 88} {
		writes(t, v, handle, 0, bytes.Repeat([]byte{b}, 4096))
	}
	wantsCompact(t, v, 0)
	wantsAt(t, v, c, map[int]uint64{2: 0, 3: 4096, 5: 8192, 7: 12288, 8: 16384})
	unchanged(t, "Compact once more", v, func() { wantsCompact(t, v, 0) })
	frees(t, v, 3)
	wantsCompact(t, v, 1)
	unchanged(t, "Compact once more", v, func() { wantsCompact(t, v, 0) })
	for handle, b := range map[int]byte{2: 22, 5: 55, 7: 77, 8: 88} {
		wantsBytes(t, v, handle, 0, bytes.Repeat([]byte{b}, 4096))
	}
}

// P16.6: several regions go at once.
func TestCompactMany(t *testing.T) {
	c := config(1, 5)
	v := full(t, c, 5)
	frees(t, v, 1, 2, 3, 4, 5, 6, 7, 9)
	wantsCompact(t, v, 4)
	wantsAt(t, v, c, map[int]uint64{8: 0, 10: 4096})
	wantsStats(t, v, api.Stats{H: 8192, L: 8192, Blocks: 2})
}

// P16.6: a pinned block in the last region: no region goes, though all others are empty; in the first one: all others go.
func TestCompactWithPinned(t *testing.T) {
	c := config(1, 4)
	v := full(t, c, 4)
	pins(t, v, 8, c.Base+28672)
	frees(t, v, 2, 3, 4, 5, 6, 7)
	wantsCompact(t, v, 0)
	wantsAt(t, v, c, map[int]uint64{1: 0, 8: 28672})
	unpins(t, v, 8)
	pins(t, v, 1, c.Base)
	wantsCompact(t, v, 3)
	wantsAt(t, v, c, map[int]uint64{1: 0, 8: 4096})
}

// P16.6: a pinned block in the middle: just the regions above it go.
func TestCompactWithPinnedInTheMiddle(t *testing.T) {
	c := config(1, 4)
	v := full(t, c, 4)
	pins(t, v, 4, c.Base+12288)
	frees(t, v, 1, 2, 3, 5, 6, 7)
	wantsCompact(t, v, 2)
	wantsAt(t, v, c, map[int]uint64{4: 12288, 8: 0})
}

// P16.6: what is pinned leaves a hole that no greater block fits: a region more than the pages need.
func TestCompactWithAHole(t *testing.T) {
	c := config(1, 3)
	v := full(t, c, 1)
	pins(t, v, 1, c.Base)
	frees(t, v, 2)
	takesAll(t, v, 8192, 8192)
	frees(t, v, 3)
	wantsRegions(t, v, 3)
	wantsCompact(t, v, 1)
	wantsAt(t, v, c, map[int]uint64{1: 0, 4: 8192})
	unpins(t, v, 1)
	wantsStats(t, v, api.Stats{H: 16384, L: 12288, Blocks: 2, FreePages: 1})
	wantsCompact(t, v, 0)
	wantsAt(t, v, c, map[int]uint64{4: 0, 1: 8192}) // 4 is greater, and comes first
}

// P16.6: all blocks are pinned: regions at the top go that meet none, and nothing moves.
func TestCompactOfPinned(t *testing.T) {
	c := config(1, 4)
	v := full(t, c, 4)
	for _, handle := range []int{2, 3} {
		pins(t, v, handle, c.Base+uint64(handle-1)*4096)
	}
	frees(t, v, 1, 4, 5, 6, 7, 8)
	wantsCompact(t, v, 2)
	wantsAt(t, v, c, map[int]uint64{2: 4096, 3: 8192})
}

// P16.6: pages of a class that hold pinned cells: the others of the class gather there, and what they had goes.
func TestCompactWithPinnedCells(t *testing.T) {
	c := config(0, 8)
	v := newVault(t, c)
	takesAll(t, v, times(8*4, 1024)...) // four a page
	pins(t, v, 6, c.Base+4096+1024)
	pins(t, v, 16, c.Base+3*4096+3072)
	for handle := 1; handle <= 32; handle++ {
		if handle%4 == 1 {
			writes(t, v, handle, 1000, []byte{byte(handle)})
		} else if handle != 6 && handle != 16 {
			frees(t, v, handle)
		}
	}
	wantsCompact(t, v, 4) // the pinned one on page 3 keeps four regions
	wantsAt(t, v, c, map[int]uint64{6: 5120, 16: 15360, 1: 4096, 5: 6144, 9: 7168, 13: 12288, 17: 13312, 21: 14336, 25: 0, 29: 1024})
	wantsStats(t, v, api.Stats{H: 16384, L: 10240, Blocks: 10, FreePages: 1})
	for handle := 1; handle <= 32; handle += 4 {
		wantsBytes(t, v, handle, 1000, []byte{byte(handle)})
	}
}

// Words: behind a laying the heap is that of image.Load of image.Lay: nothing is left over of what came ahead.
func TestNothingLeftOver(t *testing.T) {
	c := config(2, 3)
	v := full(t, c, 3)
	for handle := 1; handle <= 12; handle++ {
		writes(t, v, handle, 0, bytes.Repeat([]byte{byte(handle)}, 4096))
	}
	frees(t, v, 1, 2, 4, 5, 6, 8, 9, 10, 12)
	takesAll(t, v, 16, 100, 100)
	frees(t, v, 14)
	writes(t, v, 13, 0, bytes.Repeat([]byte{13}, 16))
	writes(t, v, 15, 0, bytes.Repeat([]byte{15}, 128))
	pins(t, v, 7, c.Base+6*4096)
	wantsCompact(t, v, 1)
	want, e := image.Lay(c, 2,
		[]api.Block{{P: c.Base, Size: 4096}, {P: c.Base + 6*4096, Size: 4096}, {P: c.Base + 4096, Size: 4096}, {P: c.Base + 8192, Size: 128}, {P: c.Base + 12288, Size: 16}},
		[][]byte{bytes.Repeat([]byte{3}, 4096), bytes.Repeat([]byte{7}, 4096), bytes.Repeat([]byte{11}, 4096), bytes.Repeat([]byte{15}, 128), bytes.Repeat([]byte{13}, 16)})
	wantsError(t, "Lay", e, api.OK)
	if !same(v.Image(), want) {
		t.Error("the heap is another one")
	}
}

// P16.2, P16.6: the greatest vault that there may be, full of the least blocks, then thin, and laid together for a greatest one.
func TestCompactOfMany(t *testing.T) {
	c := config(4, 64)
	v := newVault(t, c)
	takesAll(t, v, times(1024*256, 16)...)
	if handle, e := v.Malloc(16, false); handle != 0 || e != api.ENOMEM {
		t.Fatalf("Malloc: %d, %v", handle, e)
	}
	for handle := 1; handle <= 1024*256; handle++ {
		if handle%64 != 5 {
			frees(t, v, handle)
		}
	}
	writes(t, v, 64*4000+5, 3, []byte{1, 2, 3})
	takes(t, v, 65536, true, 1024*256+1)
	wantsStats(t, v, api.Stats{H: 1 << 22, L: 65536 * 2, Blocks: 4097, FreePages: 1024 - 32})
	wantsCompact(t, v, 62)
	wantsBytes(t, v, 64*4000+5, 3, []byte{1, 2, 3, 0})
	if got := placeOf(t, v, 64*4000+5); got != c.Base+65536+4000*16 {
		t.Errorf("it lies at %d", got)
	}
	wantsSound(t, v)
}
