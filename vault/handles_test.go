package vault_test

import (
	"bytes"
	"testing"

	"croft/api"
)

// P16.3 to P16.5: a handle that never was, 0, below 0, far away, one that went: EINVAL of every call, whatever else it is given; of an empty vault and of one with blocks.
func TestNoHandles(t *testing.T) {
	v := newVault(t, example())
	for _, handle := range append(noHandles(), 1, 2) {
		refusesHandle(t, v, handle)
	}
	takesAll(t, v, 16, 4096, 4096)
	frees(t, v, 2)
	for _, handle := range append(noHandles(), 2, 4, 5) {
		refusesHandle(t, v, handle)
	}
	wantsHandles(t, v, 1, 3)
	pins(t, v, 3, 73728)
	for _, handle := range append(noHandles(), 2, 4, 5) {
		refusesHandle(t, v, handle)
	}
	wantsCompact(t, v, 0)
	takes(t, v, 4096, false, 4)
	refusesHandle(t, v, 2)
	refusesHandle(t, v, 5)
}

// P16.3: Free gives the block back: once, and the heap has its room again. Its regions stay.
func TestFree(t *testing.T) {
	v := newVault(t, example())
	takesAll(t, v, 8192, 16, 16)
	frees(t, v, 1)
	refusesHandle(t, v, 1)
	wantsHandles(t, v, 2, 3)
	wantsStats(t, v, api.Stats{H: 16384, L: 32, Blocks: 2, FreePages: 3})
	takes(t, v, 8192, true, 4)
	frees(t, v, 4, 3, 2)
	wantsHandles(t, v)
	wantsStats(t, v, api.Stats{H: 16384, FreePages: 4})
}

// P16.3: a pinned block is not freed, however often it is pinned, till it is let go as often.
func TestFreeOfPinned(t *testing.T) {
	v := newVault(t, example())
	takesAll(t, v, 100)
	for range 3 {
		pins(t, v, 1, 65536)
	}
	for range 3 {
		unchanged(t, "Free of a pinned block", v, func() { wantsError(t, "Free", v.Free(1), api.ESTATE) })
		unpins(t, v, 1)
	}
	frees(t, v, 1)
	refusesHandle(t, v, 1)
}

// P16.3: Size is the block's, whatever was asked for, wherever it lies, pinned or not.
func TestSizeOfMoved(t *testing.T) {
	v := full(t, example(), 2)
	frees(t, v, 1, 4)
	takes(t, v, 5000, true, 5)
	pins(t, v, 2, 73728)
	for handle, want := range map[int]uint64{2: 4096, 3: 4096, 5: 8192} {
		if got, e := v.Size(handle); got != want || e != api.OK {
			t.Errorf("Size(%d): %d, %v; not %d", handle, got, e, want)
		}
	}
}

// P16.4: up to the size all is well; one more is EFAULT, and so are sums above 2^64 - 1, and nothing is changed then. No byte at the size is well, too.
func TestBytesAtTheEdges(t *testing.T) {
	for _, size := range []uint64{16, 32, 2048, 4096, 8192} {
		v := newVault(t, example())
		takesAll(t, v, size)
		writes(t, v, 1, 0, bytes.Repeat([]byte{9}, int(size)))
		for _, x := range []struct {
			at, n uint64
			want  api.Errno
		}{
			{0, 0, api.OK}, {0, 1, api.OK}, {0, size, api.OK}, {1, size - 1, api.OK}, {size - 1, 1, api.OK}, {size, 0, api.OK},
			{0, size + 1, api.EFAULT}, {1, size, api.EFAULT}, {size - 1, 2, api.EFAULT}, {size, 1, api.EFAULT}, {size + 1, 0, api.EFAULT},
			{most, 0, api.EFAULT}, {most, 1, api.EFAULT}, {most, 2, api.EFAULT}, {most - 3, 20, api.EFAULT}, {most - size + 1, size, api.EFAULT}, {most - size + 2, 2 * size, api.EFAULT}, {1 << 63, 1, api.EFAULT},
		} {
			b, e := v.Read(1, x.at, x.n)
			wantsError(t, x, e, x.want)
			if e == api.OK && !bytes.Equal(b, bytes.Repeat([]byte{9}, int(x.n))) || e != api.OK && len(b) != 0 {
				t.Errorf("%v: Read: %d bytes", x, len(b))
			}
			write := func() { wantsError(t, x, v.Write(1, x.at, bytes.Repeat([]byte{8}, int(x.n))), x.want) }
			if x.want != api.OK || x.n == 0 {
				unchanged(t, x, v, write)
				continue
			}
			write()
			want := bytes.Repeat([]byte{9}, int(size))
			copy(want[x.at:], bytes.Repeat([]byte{8}, int(x.n)))
			wantsBytes(t, v, 1, 0, want)
			writes(t, v, 1, 0, bytes.Repeat([]byte{9}, int(size)))
		}
		for _, x := range [][2]uint64{{0, most}, {1, most}, {size, most}, {size, most - size}, {size, most - size + 1}, {most, most}, {1 << 63, 1 << 63}, {1, 1 << 63}} {
			if b, e := v.Read(1, x[0], x[1]); len(b) != 0 || e != api.EFAULT {
				t.Errorf("Read(1, %d, %d): %d bytes, %v", x[0], x[1], len(b), e)
			}
		}
	}
}

// P16.4: blocks side by side are not written into one another, up to their last bytes.
func TestBytesOfNeighbours(t *testing.T) {
	v := newVault(t, example())
	takesAll(t, v, 16, 16, 16)
	for handle := 1; handle <= 3; handle++ {
		writes(t, v, handle, 0, bytes.Repeat([]byte{byte(handle)}, 16))
	}
	writes(t, v, 2, 0, bytes.Repeat([]byte{7}, 16))
	unchanged(t, "Write past the end", v, func() {
		wantsError(t, "Write", v.Write(1, 8, make([]byte, 16)), api.EFAULT)
		wantsError(t, "Write", v.Write(2, 16, make([]byte, 16)), api.EFAULT)
	})
	wantsBytes(t, v, 1, 0, bytes.Repeat([]byte{1}, 16))
	wantsBytes(t, v, 2, 0, bytes.Repeat([]byte{7}, 16))
	wantsBytes(t, v, 3, 0, bytes.Repeat([]byte{3}, 16))
}

// P16.4: a pinned block is read and written as any other one.
func TestBytesOfPinned(t *testing.T) {
	v := newVault(t, example())
	takesAll(t, v, 16)
	pins(t, v, 1, 65536)
	writes(t, v, 1, 4, []byte{1, 2})
	wantsBytes(t, v, 1, 4, []byte{1, 2, 0})
	if got := v.Image().Mem[4:6]; !bytes.Equal(got, []byte{1, 2}) {
		t.Errorf("at its address lies %v", got)
	}
}

// P16.5: Pin twice, Unpin three times: the third is ESTATE. Each Pin tells the address; between them nothing moves the block.
func TestPinTwice(t *testing.T) {
	c := config(1, 2)
	v := full(t, c, 2)
	pins(t, v, 4, c.Base+12288)
	pins(t, v, 4, c.Base+12288)
	frees(t, v, 1, 2, 3)
	wantsCompact(t, v, 0)
	unpins(t, v, 4)
	wantsCompact(t, v, 0) // once more than not at all
	pins(t, v, 4, c.Base+12288)
	unpins(t, v, 4, 4)
	unchanged(t, "Unpin", v, func() { wantsError(t, "Unpin", v.Unpin(4), api.ESTATE) })
	wantsCompact(t, v, 1)
	pins(t, v, 4, c.Base)
	unpins(t, v, 4)
	wantsError(t, "Unpin", v.Unpin(4), api.ESTATE)
	frees(t, v, 4)
}

// P16.5: Unpin of what was never pinned is ESTATE, and does not count: one Pin behind it pins.
func TestUnpinFirst(t *testing.T) {
	v := newVault(t, example())
	takesAll(t, v, 16)
	for range 5 {
		unchanged(t, "Unpin", v, func() { wantsError(t, "Unpin", v.Unpin(1), api.ESTATE) })
	}
	pins(t, v, 1, 65536)
	wantsError(t, "Free", v.Free(1), api.ESTATE)
}

// P16.5: many Pins of one block, and of many.
func TestPinOften(t *testing.T) {
	v := full(t, example(), 2)
	for range 1000 {
		pins(t, v, 1, 65536)
		pins(t, v, 2, 69632)
	}
	for range 999 {
		unpins(t, v, 1)
	}
	wantsError(t, "Free", v.Free(1), api.ESTATE)
	unpins(t, v, 1)
	frees(t, v, 1)
	wantsError(t, "Free", v.Free(2), api.ESTATE)
}

// P16.7: Handles rise, Stats and Image are the heap's, with blocks and without.
func TestTold(t *testing.T) {
	c := config(1, 3)
	v, h := newVault(t, c), newHeap(t, c)
	for i, size := range []uint64{16, 17, 16, 4096, 100, 2048} {
		takes(t, v, size, false, i+1)
		h.Malloc(size, false)
		if !same(v.Image(), h.Image()) || v.Stats() != h.Stats() {
			t.Fatal("the heap is another than one of which the same was asked")
		}
	}
	for _, handle := range []int{3, 1, 6} {
		p := placeOf(t, v, handle)
		frees(t, v, handle)
		h.Free(p)
		if !same(v.Image(), h.Image()) || v.Stats() != h.Stats() {
			t.Fatal("the heap is another than one of which the same was asked")
		}
	}
	wantsHandles(t, v, 2, 4, 5)
}
