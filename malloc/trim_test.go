package malloc_test

import (
	"slices"
	"testing"

	"croft/api"
)

// P8.7, T6: Trim with a live block at the top, below it, and with none; of each size, so that small blocks hold a region as great ones do.
func TestTrim(t *testing.T) {
	c := api.Config{Base: 1 << 20, Limit: 4, Order: 2}
	for r := uint64(16); r <= regionBytes(c); r *= 2 {
		b := newBoth(t, c)
		b.wantTrim(0)
		b.takes(16384, 16384, 16384)
		top := b.takes(r)[0]
		b.wantTrim(0) // a live block at the top
		b.frees(1<<20, 1<<20+16384)
		b.wantTrim(0) // free regions below it stay
		b.wantStats(api.Stats{H: 65536, L: 16384 + r, Blocks: 2, FreePages: 8 + 4 - int(max(r, 4096)/4096)})
		b.frees(top)
		b.wantTrim(1) // a live block below the top
		b.wantTrim(0)
		b.frees(1<<20 + 32768)
		b.wantTrim(3) // none
		b.wantStats(api.Stats{})
		b.wantTrim(0)
		b.is(b.malloc(r, false), answer{1 << 20, api.OK})
	}
}

// P8.7: what went comes again for whoever asks, all its bytes 0 then.
func TestTrimAndGrow(t *testing.T) {
	b := newBoth(t, api.Config{Base: 65536, Limit: 2})
	list := b.takes(4096, 4096)
	b.fill(list[1], 0xaa)
	b.frees(list[1])
	b.wantTrim(1)
	b.faults(list[1])
	b.refusedFree(list[1])
	b.refusedMalloc(4096, true, api.ENOMEM)
	b.is(b.malloc(4096, false), answer{list[1], api.OK})
	b.wantHeld(list[1], make([]byte, 4096))
}

// P8.7: a region that has one live cell alone stays, whichever page it is on.
func TestTrimWithOneCell(t *testing.T) {
	c := api.Config{Base: 1 << 20, Limit: 2, Order: 2}
	for page := range uint64(8) {
		b := newBoth(t, c)
		var all []uint64
		for range 16 {
			all = append(all, b.takes(2048)...)
		}
		kept := all[2*page+page%2]
		b.frees(slices.DeleteFunc(all, func(p uint64) bool { return p == kept })...)
		b.wantTrim(1 - int(page/4))
		b.is(b.usable(kept), answer{2048, api.OK})
		b.frees(kept)
		b.wantTrim(1 + int(page/4))
	}
}

// P8.7: Stats and Live of blocks of every size: pages that meet a live block are not free, however little of them it has.
func TestStatsAndLive(t *testing.T) {
	b := newBoth(t, api.Config{Base: 65536, Limit: 2, Order: 3})
	if got := b.h.Live(); len(got) != 0 {
		t.Errorf("Live: %v", got)
	}
	b.takes(16)
	b.wantStats(api.Stats{H: 32768, L: 16, Blocks: 1, FreePages: 7})
	b.takes(8192)
	b.wantStats(api.Stats{H: 32768, L: 8208, Blocks: 2, FreePages: 5})
	b.takes(16, 2048, 4096)
	b.wantStats(api.Stats{H: 32768, L: 14368, Blocks: 5, FreePages: 3})
	b.takes(32768)
	b.wantStats(api.Stats{H: 65536, L: 47136, Blocks: 6, FreePages: 3})
	want := []api.Block{{P: 65536, Size: 16}, {P: 65552, Size: 16}, {P: 69632, Size: 2048}, {P: 73728, Size: 8192}, {P: 81920, Size: 4096}, {P: 98304, Size: 32768}}
	if got := b.h.Live(); !slices.Equal(got, want) {
		t.Errorf("Live: %v, not %v", got, want)
	}
	b.frees(65536, 98304)
	b.wantStats(api.Stats{H: 65536, L: 14352, Blocks: 4, FreePages: 11})
	if got := b.h.Live(); !slices.Equal(got, want[1:5]) {
		t.Errorf("Live: %v", got)
	}
}

// P8.7: a full page of each class, then every other cell of it: Live tells them one by one.
func TestLiveOfEachClass(t *testing.T) {
	for class := range 8 {
		b := newBoth(t, api.Config{Base: 65536, Limit: 1, Order: 1})
		size := uint64(16) << class
		var want []api.Block
		for at := uint64(0); at < 4096; at += size {
			b.takes(size)
			want = append(want, api.Block{P: 65536 + at, Size: size})
		}
		if got := b.h.Live(); !slices.Equal(got, want) {
			t.Errorf("class %d: Live: %v", class, got)
		}
		b.wantStats(api.Stats{H: 8192, L: 4096, Blocks: len(want), FreePages: 1})
		for at := size; at < 4096; at += 2 * size {
			b.frees(65536 + at)
		}
		want = slices.DeleteFunc(want, func(x api.Block) bool { return (x.P-65536)/size%2 == 1 })
		if got := b.h.Live(); !slices.Equal(got, want) {
			t.Errorf("class %d: Live: %v", class, got)
		}
		b.wantStats(api.Stats{H: 8192, L: 2048, Blocks: len(want), FreePages: 1})
	}
}
