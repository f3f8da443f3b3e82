package malloc_test

import (
	"bytes"
	"math"
	"testing"

	"croft/api"
	"croft/malloc"
)

// P8.1: what may not be a Config, each bound passed by one, makes no heap; at the bounds it does, and that is told, with no region there.
func TestNew(t *testing.T) {
	for _, c := range []api.Config{
		{}, {Limit: 2, Order: 1}, {Base: 4096, Limit: 2, Order: 1}, {Base: 65537, Limit: 2}, {Base: 65536 + 2048, Limit: 2},
		{Base: 65536, Limit: 0}, {Base: 65536, Limit: -1}, {Base: 65536, Limit: 65}, {Base: 65536, Limit: math.MinInt}, {Base: 65536, Limit: math.MaxInt},
		{Base: 1 << 20, Limit: 1, Order: -1}, {Base: 1 << 21, Limit: 1, Order: 9}, {Base: 1 << 20, Limit: 1, Order: math.MaxInt}, {Base: 1 << 20, Limit: 1, Order: math.MinInt}, {Base: 1 << 20, Limit: 1, Order: 64},
		{Base: 1 << 20, Limit: 5, Order: 8}, {Base: 1 << 20, Limit: 33, Order: 5},
		{Base: 1<<63 - 4096, Limit: 2}, {Base: 1 << 63, Limit: 1}, {Base: math.MaxUint64 - 4095, Limit: 1}, {Base: math.MaxUint64, Limit: 1},
	} {
		if h, e := malloc.New(c); h != nil || e != api.EINVAL {
			t.Errorf("New(%+v): %v, %v", c, h, e)
		}
	}
	for _, c := range []api.Config{
		{Base: 4096, Limit: 1}, {Base: 8192, Limit: 2, Order: 1}, {Base: 65536, Limit: 64}, {Base: 1 << 20, Limit: 1, Order: 8},
		{Base: 1 << 20, Limit: 4, Order: 8}, {Base: 1 << 20, Limit: 64, Order: 4}, {Base: 1 << 20, Limit: 32, Order: 5},
		{Base: 1<<63 - 4096, Limit: 1}, {Base: 1<<63 - 8192, Limit: 2}, {Base: 1<<63 - 4<<20, Limit: 4, Order: 8},
	} {
		b := newBoth(t, c)
		b.check()
		b.wantStats(api.Stats{})
		b.wantTrim(0)
		b.is(b.malloc(1, false), answer{c.Base, api.OK})
	}
}

// edge is a size that is asked for, and the size for that request.
type edge struct{ size, r uint64 }

// edges are the sizes that the chapter names, and those beside powers of 2, up to R.
func edges(c api.Config) []edge {
	list := []edge{{0, 16}, {1, 16}, {15, 16}}
	for r := uint64(16); r <= regionBytes(c); r *= 2 {
		list = append(list, edge{r/2 + 1, max(r, 16)}, edge{r - 1, r}, edge{r, r})
	}
	return list
}

// tooBig are sizes for which there is none up to R.
func tooBig(c api.Config) []uint64 {
	return []uint64{regionBytes(c) + 1, 2 * regionBytes(c), 2*regionBytes(c) + 1, 1 << 32, 1<<32 + 1, 1<<62 + 1, 1<<63 - 1, 1 << 63, 1<<63 + 1, 1<<63 + 16, math.MaxUint64 - 1, math.MaxUint64}
}

// P8.3, T1: of each size up to R, in regions of every size: the size for the request, at Base of a new heap; a region comes, if none is denied.
func TestSizes(t *testing.T) {
	for _, order := range []int{0, 1, 2, 4, 8} {
		c := api.Config{Base: 1 << 20, Limit: 2, Order: order}
		for _, x := range edges(c) {
			b := newBoth(t, c)
			b.refusedMalloc(x.size, true, api.ENOMEM)
			b.is(b.malloc(x.size, false), answer{1 << 20, api.OK})
			b.is(b.usable(1<<20), answer{x.r, api.OK})
			b.wantStats(api.Stats{H: regionBytes(c), L: x.r, Blocks: 1, FreePages: 1<<order - int(max(x.r, 4096)/4096)})
			b = newBoth(t, c)
			b.is(b.calloc(1, x.size, false), answer{1 << 20, api.OK})
			b.is(b.usable(1<<20), answer{x.r, api.OK})
			b = newBoth(t, c)
			b.is(b.aligned(1, x.size, false), answer{1 << 20, api.OK})
			b.is(b.usable(1<<20), answer{x.r, api.OK})
		}
	}
}

// P8.3, R2, R3: sizes that are too big, on a heap that is empty, that has room, and that is full: ETOOBIG ahead of ENOMEM, and nothing comes.
func TestTooBig(t *testing.T) {
	for _, order := range []int{0, 1, 2, 4, 8} {
		c := api.Config{Base: 1 << 20, Limit: 2, Order: order}
		b := newBoth(t, c)
		wrong := func() {
			t.Helper()
			for i, size := range tooBig(c) {
				b.refusedMalloc(size, i%2 == 0, api.ETOOBIG)
				b.refusedCalloc(1, size, i%2 == 0, api.ETOOBIG)
				b.refusedCalloc(size, 1, i%2 == 0, api.ETOOBIG)
				b.refusedAligned(1<<(i%13), size, i%2 == 0, api.ETOOBIG)
				b.refusedRealloc(0, size, i%2 == 0, api.ETOOBIG)
			}
		}
		wrong()
		b.takes(regionBytes(c))
		wrong()
		b.takes(regionBytes(c))
		wrong()
	}
}

// P8.3: products at 2^64 - 1 and above, and those that wrap round to small ones.
func TestProducts(t *testing.T) {
	c := api.Config{Base: 1 << 20, Limit: 2, Order: 2}
	b := newBoth(t, c)
	for _, x := range [][2]uint64{
		{1 << 32, 1 << 32}, {1<<32 - 1, 1<<32 + 1}, {1 << 32, 1<<32 - 1}, {3, 1 << 63}, {2, 1 << 63}, {2, 1<<63 + 8}, {16, 1<<60 + 1}, {4, 1 << 62},
		{3, 6148914691236517205}, {5, 3689348814741910323}, {5, 3689348814741910324}, {1, math.MaxUint64}, {math.MaxUint64, math.MaxUint64}, {math.MaxUint64, 2},
		{1 << 63, 2}, {1<<63 + 1, 2}, {257, 72340172838076673}, {2, 8193}, {3, 5462}, {128, 129}, {16385, 1},
	} {
		b.refusedCalloc(x[0], x[1], false, api.ETOOBIG)
		b.refusedCalloc(x[1], x[0], true, api.ETOOBIG)
	}
	for _, x := range [][3]uint64{
		{0, 0, 16}, {0, 5, 16}, {0, math.MaxUint64, 16}, {0, 1 << 63, 16}, {1, 1, 16}, {1, 16, 16}, {4, 4, 16}, {17, 1, 32}, {3, 6, 32}, {64, 32, 2048},
		{683, 3, 4096}, {2048, 2, 4096}, {128, 128, 16384}, {3, 5461, 16384}, {1, 16384, 16384},
	} {
		for _, turned := range []bool{false, true} {
			n, size := x[0], x[1]
			if turned {
				n, size = size, n
			}
			a := b.calloc(n, size, false)
			b.is(b.usable(a.p), answer{x[2], api.OK})
			b.frees(a.p)
		}
	}
}

// P8.3, T5: all r bytes behind Calloc are 0, whatever stood there: links, and what a user wrote.
func TestCallocClears(t *testing.T) {
	for order := range 3 {
		c := api.Config{Base: 1 << 20, Limit: 1, Order: order}
		for _, x := range edges(c) {
			b := newBoth(t, c)
			all := b.takes(regionBytes(c))[0]
			b.fill(all, 0xff)
			b.frees(all)
			for _, size := range []uint64{x.r, x.r} {
				if a := b.malloc(size, false); a.e == api.OK {
					b.fill(a.p, 0xee)
				}
			}
			for _, at := range b.w.blocks() {
				b.frees(at.P)
			}
			for range 2 {
				a := b.calloc(1, x.size, false)
				if a.e != api.OK {
					continue
				}
				if got := b.read(a.p, x.r); !bytes.Equal(got, make([]byte, x.r)) {
					t.Fatalf("Calloc(1, %d): %v", x.size, got)
				}
			}
			b.check()
		}
	}
}

// P8.3: nothing but the block is cleared.
func TestCallocLeavesOthers(t *testing.T) {
	c := api.Config{Base: 1 << 20, Limit: 2, Order: 2}
	for _, size := range []uint64{16, 64, 2048, 4096, 8192} {
		b := newBoth(t, c)
		list := b.takes(size, size, size)
		for _, p := range list {
			b.fill(p, 0x5a)
		}
		b.frees(list[1])
		b.is(b.calloc(size, 1, false), answer{list[1], api.OK})
		for _, p := range []uint64{list[0], list[2]} {
			if got := b.read(p, size); !bytes.Equal(got, bytes.Repeat([]byte{0x5a}, int(size))) {
				t.Errorf("Calloc(%d, 1) has changed the block at %d", size, p)
			}
		}
	}
}

// P8.3, R2: an alignment that is none comes ahead of all other errors, on a heap that is empty, that has room, and that is full.
func TestNoAlignment(t *testing.T) {
	b := newBoth(t, example())
	wrong := func() {
		t.Helper()
		for _, align := range []uint64{0, 3, 5, 6, 7, 9, 12, 17, 24, 4095, 4097, 8191, 8193, 12288, 1<<32 + 1, 1<<63 - 1, 1<<63 + 1, 3 << 62, math.MaxUint64 - 1, math.MaxUint64} {
			for _, size := range []uint64{0, 1, 4096, 8192, 8193, 1<<63 + 1, math.MaxUint64} {
				b.refusedAligned(align, size, false, api.EINVAL)
				b.refusedAligned(align, size, true, api.EINVAL)
			}
		}
	}
	wrong()
	b.takes(16)
	wrong()
	b.takes(4096, 8192)
	wrong()
}

// P8.3, T1: each alignment up to R, with sizes below and above it; above R it is too big.
func TestAlignments(t *testing.T) {
	for _, order := range []int{0, 1, 2, 4, 8} {
		c := api.Config{Base: 1 << 20, Limit: 2, Order: order}
		for align := uint64(1); align != 0; align *= 2 {
			for _, size := range []uint64{0, 1, 16, 17, 100, 4096, 4097, regionBytes(c)} {
				b := newBoth(t, c)
				r := uint64(16)
				for r < max(size, align) {
					r *= 2
				}
				if r > regionBytes(c) {
					b.refusedAligned(align, size, false, api.ETOOBIG)
					continue
				}
				b.takes(1)
				a := b.aligned(align, size, false)
				b.is(b.usable(a.p), answer{r, api.OK})
				if a.p%align != 0 || a.p%r != 0 {
					t.Errorf("AlignedAlloc(%d, %d): %d", align, size, a.p)
				}
			}
		}
	}
}

// P8.3, T2: a region comes only where no place is found without one, and one alone; at Limit, or denied, none comes.
func TestGrows(t *testing.T) {
	for order := range 4 {
		c := api.Config{Base: 1 << 20, Limit: 3, Order: order}
		for r := uint64(16); r <= regionBytes(c); r *= 2 {
			b := newBoth(t, c)
			for region := range uint64(3) {
				b.refusedMalloc(r, true, api.ENOMEM)
				for at := uint64(0); at < regionBytes(c); at += r {
					a := b.malloc(r, at > 0)
					if want := 1<<20 + region*regionBytes(c) + at; a != (answer{want, api.OK}) {
						t.Fatalf("Malloc(%d): %v, not %d", r, a, want)
					}
				}
			}
			for size := uint64(16); size <= regionBytes(c); size *= 2 {
				b.refusedMalloc(size, false, api.ENOMEM)
				b.refusedCalloc(1, size, false, api.ENOMEM)
				b.refusedAligned(size, 1, false, api.ENOMEM)
				b.refusedRealloc(0, size, false, api.ENOMEM)
				b.refusedMalloc(size, true, api.ENOMEM)
			}
		}
	}
}

// P8.3: a denied call is served where there is room.
func TestDeniedWithRoom(t *testing.T) {
	c := api.Config{Base: 1 << 20, Limit: 1, Order: 3}
	for _, x := range edges(c) {
		b := newBoth(t, c)
		b.frees(b.takes(1)[0])
		b.is(b.malloc(x.size, true), answer{1 << 20, api.OK})
		b.frees(1 << 20)
		b.is(b.calloc(x.size, 1, true), answer{1 << 20, api.OK})
		b.frees(1 << 20)
		b.is(b.aligned(x.r, 0, true), answer{1 << 20, api.OK})
		b.frees(1 << 20)
		b.is(b.realloc(0, x.size, true), answer{1 << 20, api.OK})
	}
}
