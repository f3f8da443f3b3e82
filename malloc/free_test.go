package malloc_test

import (
	"math"
	"slices"
	"testing"

	"croft/api"
)

// refusedFree asks that at p no live block begins: Free and UsableSize are refused.
func (b *both) refusedFree(p uint64) {
	b.t.Helper()
	b.refused(func() answer { return answer{0, b.h.Free(p)} }, api.EINVAL)
	b.refused(func() answer { r, e := b.h.UsableSize(p); return answer{r, e} }, api.EINVAL)
}

// P8.5, T6: Free of 0 does nothing, wherever it is asked; 0 starts no block.
func TestFreeOfZero(t *testing.T) {
	b := newBoth(t, example())
	look := func() {
		t.Helper()
		b.refused(func() answer { return answer{0, b.h.Free(0)} }, api.OK)
		b.refused(func() answer { r, e := b.h.UsableSize(0); return answer{r, e} }, api.EINVAL)
	}
	look()
	b.takes(16, 4096)
	look()
	b.takes(8192)
	look()
}

// P8.5, T6: of what starts no live block: inside blocks of each kind, free cells and pages, outside of what is committed.
func TestFreeOfNone(t *testing.T) {
	for class := range 8 {
		b := newBoth(t, api.Config{Base: 65536, Limit: 3, Order: 2})
		size := uint64(16) << class
		list := b.takes(size, size, 8192, 16384, 16384)
		b.frees(list[4]) // page 0: cells; 1 free; 2 and 3 a block, 4 to 7 one; 8 to 11 free
		inside := []uint64{65537, 65536 + 8, 65536 + size - 1, 65536 + size/2, 65536 + size + 1, 73728 + 1, 73728 + 16, 73728 + size, 77824, 81920 + 4096, 81920 + 8192, 90112 + 2048, 98303}
		free := []uint64{69632 - 1, 69632, 69632 + size, 98304, 98304 + size, 102400, 106496, 114687}
		outside := []uint64{1, 15, 16, 4096, 61440, 65520, 65535, 114688, 114688 + size, 118784, 131072, 1 << 20, 1 << 63, 1<<63 + 65536, math.MaxUint64, math.MaxUint64 - 15, math.MaxUint64 - 4095, 65536 + 1<<63}
		for _, p := range slices.Concat(inside, free, outside) {
			b.refusedFree(p)
		}
		if class < 7 { // of the greatest class both cells are live
			b.refusedFree(65536 + 2*size)
			b.refusedFree(69632 - size)
		}
		for i, want := range []uint64{size, size, 8192, 16384} {
			b.is(b.usable(list[i]), answer{want, api.OK})
		}
	}
}

// P8.5, T6: a block goes once; it is handed out again.
func TestFreeTwice(t *testing.T) {
	c := api.Config{Base: 1 << 20, Limit: 3, Order: 2}
	for r := uint64(16); r <= regionBytes(c); r *= 2 {
		b := newBoth(t, c)
		list := b.takes(r, r, r)
		for _, p := range list {
			b.is(b.free(p), answer{0, api.OK})
			b.refusedFree(p)
			b.is(b.malloc(r, true), answer{p, api.OK})
		}
		for _, p := range list {
			b.is(b.free(p), answer{0, api.OK})
			b.refusedFree(p)
		}
		b.wantStats(api.Stats{H: b.h.Stats().H, FreePages: int(b.h.Stats().H / 4096)})
	}
}

// P8.5, T6: every address of a heap with blocks of all sizes, and those beside it: just the live blocks' first ones have a size.
func TestUsableOfEvery(t *testing.T) {
	c := api.Config{Base: 1 << 20, Limit: 1, Order: 5}
	b := newBoth(t, c)
	for r := uint64(16); r <= 8192; r *= 2 {
		list := b.takes(r, r, r)
		b.frees(list[1])
	}
	b.check()
	for p := uint64(1<<20 - 5000); p < 1<<20+33*4096; p++ {
		b.usable(p)
	}
	b.check()
}

// P8.5: all blocks given back, in whatever order: nothing is live, and all regions go.
func TestAllGivenBack(t *testing.T) {
	for seed := range 12 {
		row := numbers(seed)
		b := newBoth(t, api.Config{Base: 1 << 20, Limit: 6, Order: seed % 4})
		for range 200 {
			b.malloc(row.size(b.w.c), false)
		}
		for live := b.w.blocks(); len(live) > 0; live = b.w.blocks() {
			b.frees(live[row.below(len(live))].P)
		}
		regions := int(b.h.Stats().H / regionBytes(b.w.c))
		b.wantStats(api.Stats{H: b.h.Stats().H, FreePages: regions << b.w.c.Order})
		b.wantTrim(regions)
		b.wantStats(api.Stats{})
	}
}
