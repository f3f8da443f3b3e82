package vault_test

import (
	"testing"

	"croft/api"
	"croft/vault"
)

// full makes a vault with so many regions, each page of it a block of its own: the handles rise with the addresses, from 1 on.
func full(t *testing.T, c api.Config, regions int) *vault.Vault {
	t.Helper()
	v := newVault(t, c)
	for page := range regions << c.Order {
		takes(t, v, 4096, false, page+1)
		if got, want := placeOf(t, v, page+1), c.Base+uint64(page)*4096; got != want {
			t.Fatalf("the block %d lies at %d, not %d", page+1, got, want)
		}
	}
	wantsRegions(t, v, regions)
	return v
}

// P16.2: 0 and 1 are 16 bytes, R is R, what is above it is ETOOBIG.
func TestSizes(t *testing.T) {
	for order := range 9 {
		c := config(order, 3)
		r := regionBytes(c)
		v := newVault(t, c)
		last := 0
		for _, size := range append(edges(), r/2, r/2+1, r-1, r, r+1) {
			want := sizeFor(c, size)
			if want == 0 {
				refuses(t, v, size, false, api.ETOOBIG)
				refuses(t, v, size, true, api.ETOOBIG)
				continue
			}
			last++
			takes(t, v, size, false, last)
			if got, e := v.Size(last); got != want || e != api.OK {
				t.Fatalf("Size of a block for %d bytes: %d, %v; not %d", size, got, e, want)
			}
			frees(t, v, last)
		}
	}
}

// P16.2, R2: ETOOBIG comes ahead of all else: of a vault without regions, of a full one, of a pinned one; denied and not.
func TestTooBigFirst(t *testing.T) {
	c := example()
	pinned := full(t, c, 2)
	for handle := 1; handle <= 4; handle++ {
		pins(t, pinned, handle, c.Base+uint64(handle-1)*4096)
	}
	for _, v := range []*vault.Vault{newVault(t, c), full(t, c, 1), full(t, c, 2), pinned} {
		for _, size := range []uint64{8193, 16384, 1 << 63, 1<<63 + 1, most} {
			refuses(t, v, size, true, api.ETOOBIG)
			refuses(t, v, size, false, api.ETOOBIG)
		}
	}
}

// P16.2: the heap has no place, but the blocks, laid anew, have room: they are laid in the regions that there are, denied or not, at the Limit or not.
func TestLaidAnew(t *testing.T) {
	for _, deny := range []bool{true, false} {
		for limit := 2; limit <= 3; limit++ {
			c := api.Config{Base: 65536, Limit: limit, Order: 1}
			v := full(t, c, 2)
			for handle := 1; handle <= 4; handle++ {
				writes(t, v, handle, 100, []byte{byte(handle), 7})
			}
			frees(t, v, 2, 3)
			takes(t, v, 8192, deny, 5)
			wantsRegions(t, v, 2)
			wantsAt(t, v, c, map[int]uint64{5: 0, 1: 8192, 4: 12288})
			wantsBytes(t, v, 1, 100, []byte{1, 7})
			wantsBytes(t, v, 4, 100, []byte{4, 7})
			wantsSound(t, v)
		}
	}
}

// P16.2: the vault has n regions, and they are just enough: it is laid anew in all of them, though more might come.
func TestJustEnough(t *testing.T) {
	c := config(2, 4)
	v := full(t, c, 2)
	frees(t, v, 2, 4, 5, 7)
	takes(t, v, 16384, false, 9)
	wantsRegions(t, v, 2)
	wantsAt(t, v, c, map[int]uint64{9: 0, 1: 16384, 3: 20480, 6: 24576, 8: 28672})
}

// P16.2: a laying takes all regions that there are, though fewer would do: only Compact lets some go.
func TestMoreThanEnough(t *testing.T) {
	c := config(1, 5)
	v := full(t, c, 4)
	frees(t, v, 2, 4, 6, 8)
	takes(t, v, 8192, false, 9)
	wantsRegions(t, v, 4)
	wantsAt(t, v, c, map[int]uint64{9: 0, 1: 8192, 3: 12288, 5: 16384, 7: 20480})
	wantsCompact(t, v, 1)
}

// P16.2: one region more is needed than there are: denied it is ENOMEM; else a region comes, and nothing moves.
func TestOneMore(t *testing.T) {
	c := config(2, 2)
	v := full(t, c, 1)
	frees(t, v, 2)
	refuses(t, v, 8192, true, api.ENOMEM)
	refuses(t, v, 16384, true, api.ENOMEM)
	takes(t, v, 8192, false, 5)
	wantsRegions(t, v, 2)
	wantsAt(t, v, c, map[int]uint64{1: 0, 3: 8192, 4: 12288, 5: 16384})

	refuses(t, v, 16384, true, api.ENOMEM)
	refuses(t, v, 16384, false, api.ENOMEM) // there are Limit regions, with three pages left
	frees(t, v, 3)
	takes(t, v, 16384, false, 6)
	wantsAt(t, v, c, map[int]uint64{6: 0, 5: 16384, 1: 24576, 4: 28672})
}

// P16.2: the first request of all: no regions are there, and one comes, unless it is denied.
func TestFirst(t *testing.T) {
	for order := range 9 {
		c := config(order, 1)
		for _, size := range []uint64{0, 16, 2048, 4096, regionBytes(c)} {
			v := newVault(t, c)
			refuses(t, v, size, true, api.ENOMEM)
			takes(t, v, size, false, 1)
			wantsAt(t, v, c, map[int]uint64{1: 0})
			wantsRegions(t, v, 1)
		}
	}
}

// P16.2: at the Limit, with nothing pinned, the last page is handed out, and not one more.
func TestTheLastPage(t *testing.T) {
	c := config(2, 2)
	v := full(t, c, 2)
	refuses(t, v, 1, false, api.ENOMEM)
	refuses(t, v, 16384, false, api.ENOMEM)
	frees(t, v, 3, 6)
	takes(t, v, 8192, true, 9)
	refuses(t, v, 1, false, api.ENOMEM)
	wantsStats(t, v, api.Stats{H: 32768, L: 32768, Blocks: 7})
}

// P16.2: what is pinned stands in the way in every region: there is no number in which the new block can lie, though all others may move.
func TestPinnedInTheWay(t *testing.T) {
	c := config(1, 3)
	v := full(t, c, 3)
	for _, handle := range []int{1, 4, 5} {
		pins(t, v, handle, c.Base+uint64(handle-1)*4096)
	}
	frees(t, v, 2, 3, 6)
	refuses(t, v, 8192, true, api.ENOMEM)
	refuses(t, v, 8192, false, api.ENOMEM)
	takes(t, v, 4096, true, 7)
	unpins(t, v, 4)
	takes(t, v, 8192, true, 8)
	wantsAt(t, v, c, map[int]uint64{1: 0, 4: 4096, 8: 8192, 5: 16384, 7: 20480})
}

// P16.2: one small block that is pinned takes its page from all others, but for those of its class.
func TestPinnedCell(t *testing.T) {
	c := config(0, 1)
	v := newVault(t, c)
	takes(t, v, 16, false, 1)
	for _, size := range []uint64{17, 2048, 4096} {
		refuses(t, v, size, false, api.ENOMEM)
	}
	pins(t, v, 1, c.Base)
	refuses(t, v, 32, false, api.ENOMEM)
	for i := range 255 {
		takes(t, v, 16, true, 2+i)
	}
	refuses(t, v, 16, false, api.ENOMEM)
}

// P16.2: small blocks that lie thin on many pages are laid together for a greater one, and for one of another class.
func TestThinPages(t *testing.T) {
	for _, size := range []uint64{8192, 4096, 64} {
		c := config(2, 1)
		v := newVault(t, c)
		handles := takesAll(t, v, times(4*128, 32)...)
		refuses(t, v, size, false, api.ENOMEM)
		for i, handle := range handles {
			if i%7 == 0 {
				writes(t, v, handle, 0, []byte{byte(i), byte(i >> 8), 3})
			} else {
				frees(t, v, handle)
			}
		}
		takes(t, v, size, true, 513)
		want := map[int]uint64{513: 0} // if it is small, it is of a higher class than the others
		for i, handle := range handles {
			if i%7 == 0 {
				wantsBytes(t, v, handle, 0, []byte{byte(i), byte(i >> 8), 3})
				want[handle] = max(size, 4096) + uint64(len(want)-1)*32
			}
		}
		wantsAt(t, v, c, want)
	}
}

// P16.2: the new block of a laying holds zeros, all of it, whatever lay in its place.
func TestZeros(t *testing.T) {
	for _, size := range []uint64{8192, 8000, 4097} {
		c := config(1, 2)
		v := full(t, c, 2)
		dirt := make([]byte, 4096)
		for i := range dirt {
			dirt[i] = 0xee
		}
		for handle := 1; handle <= 4; handle++ {
			writes(t, v, handle, 0, dirt)
		}
		frees(t, v, 1, 4)
		takes(t, v, size, true, 5)
		wantsBytes(t, v, 5, 0, make([]byte, 8192))
		wantsBytes(t, v, 2, 0, dirt)
		wantsBytes(t, v, 3, 0, dirt)
	}
	v := newVault(t, config(1, 1)) // and so does a small one, of which there were many
	for range 512 {
		handle := takesAll(t, v, 16)[0]
		writes(t, v, handle, 0, []byte("full to the brim"))
	}
	for handle := 1; handle <= 512; handle++ {
		if handle%3 > 0 {
			frees(t, v, handle)
		}
	}
	takes(t, v, 2048, true, 513)
	wantsBytes(t, v, 513, 0, make([]byte, 2048))
	wantsBytes(t, v, 510, 0, []byte("full to the brim"))
}

// P16.2: what a block holds that was not laid anew is the heap's: here what another one held there, behind its links.
func TestWhatTheHeapHolds(t *testing.T) {
	v := newVault(t, config(0, 1))
	takes(t, v, 4096, false, 1)
	wantsBytes(t, v, 1, 0, make([]byte, 4096))
	writes(t, v, 1, 16, []byte{1, 2, 3})
	frees(t, v, 1)
	takes(t, v, 4096, false, 2)
	wantsBytes(t, v, 2, 16, []byte{1, 2, 3, 0})
}

// P16.2: handles are 1, 2, 3, ..; a refusal takes none, one that went comes never again, and a laying takes just one.
func TestHandles(t *testing.T) {
	c := config(1, 2)
	v := newVault(t, c)
	refuses(t, v, 1, true, api.ENOMEM)
	refuses(t, v, 8193, true, api.ETOOBIG)
	takes(t, v, 4096, false, 1)
	refuses(t, v, most, true, api.ETOOBIG)
	takes(t, v, 4096, false, 2)
	refuses(t, v, 4096, true, api.ENOMEM)
	takes(t, v, 4096, false, 3)
	takes(t, v, 4096, false, 4)
	refuses(t, v, 4096, false, api.ENOMEM)
	frees(t, v, 2, 3)
	wantsHandles(t, v, 1, 4)
	takes(t, v, 8192, true, 5)
	refuses(t, v, 16, false, api.ENOMEM)
	frees(t, v, 1, 4, 5)
	wantsHandles(t, v)
	takes(t, v, 4096, true, 6)
	wantsCompact(t, v, 1)
	takes(t, v, 4096, true, 7)
	frees(t, v, 6, 7)
	wantsCompact(t, v, 1)
	takes(t, v, 4096, false, 8)
	wantsHandles(t, v, 8)
}

// P16.2: the new block of a laying is not pinned: it may be freed, and moved.
func TestNewIsNotPinned(t *testing.T) {
	c := config(1, 2)
	v := full(t, c, 2)
	frees(t, v, 1, 4)
	takes(t, v, 8192, true, 5)
	wantsError(t, "Unpin", v.Unpin(5), api.ESTATE)
	frees(t, v, 5)
	wantsHandles(t, v, 2, 3)
}
