package malloc_test

import (
	"bytes"
	"math"
	"testing"

	"croft/api"
)

// pattern is a row of bytes in which places next to one another differ.
func pattern(n uint64) []byte {
	list := make([]byte, n)
	for i := range list {
		list[i] = byte(i*7+i/256) + 1
	}
	return list
}

// wantHeld asks for what a live block holds from its beginning on.
func (b *both) wantHeld(p uint64, want []byte) {
	b.t.Helper()
	if got := b.read(p, uint64(len(want))); !bytes.Equal(got, want) {
		b.t.Errorf("the block at %d does not hold what it should", p)
	}
}

// P8.4, T3: Realloc of 0 is Malloc, each error of it too.
func TestReallocOfZero(t *testing.T) {
	b := newBoth(t, example())
	b.refusedRealloc(0, 16, true, api.ENOMEM)
	b.is(b.realloc(0, 0, false), answer{65536, api.OK})
	b.is(b.realloc(0, 17, true), answer{69632, api.OK})
	b.is(b.realloc(0, 8192, false), answer{73728, api.OK})
	b.refusedRealloc(0, 64, false, api.ENOMEM)
	b.refusedRealloc(0, 8193, false, api.ETOOBIG)
	b.refusedRealloc(0, 1<<63+1, true, api.ETOOBIG)
	b.is(b.realloc(0, 32, true), answer{69664, api.OK})
}

// P8.4, R2: of a p that starts no live block EINVAL, ahead of ETOOBIG and ENOMEM: inside blocks, of free ones, outside, of one given back.
func TestReallocOfNone(t *testing.T) {
	b := newBoth(t, api.Config{Base: 65536, Limit: 3, Order: 1})
	b.takes(16, 16, 4096, 8192, 4096)
	b.frees(65552)
	none := []uint64{1, 16, 65535, 65520, 65537, 65544, 65551, 65552, 65568, 69631, 69633, 69648, 73727, 73729, 77824, 81919, 81921, 86016, 90111, 90112, 1 << 20, 1 << 63, math.MaxUint64, math.MaxUint64 - 4095}
	for _, p := range none {
		for _, size := range []uint64{0, 16, 4096, 8192, 8193, 1<<63 + 1, math.MaxUint64} {
			b.refusedRealloc(p, size, false, api.EINVAL)
			b.refusedRealloc(p, size, true, api.EINVAL)
		}
	}
}

// P8.4, R2: a size that is too big, of each kind of block; the block stays.
func TestReallocTooBig(t *testing.T) {
	for order := range 4 {
		c := api.Config{Base: 1 << 20, Limit: 2, Order: order}
		for r := uint64(16); r <= regionBytes(c); r *= 2 {
			b := newBoth(t, c)
			p := b.takes(r)[0]
			b.write(p, pattern(r))
			for i, size := range tooBig(c) {
				b.refusedRealloc(p, size, i%2 == 0, api.ETOOBIG)
			}
			b.wantHeld(p, pattern(r))
		}
	}
}

// P8.4, T3: from each size to each, with room, denied and not: what stays in its place, what moves, what is held, what is left free.
func TestReallocOfEach(t *testing.T) {
	c := api.Config{Base: 1 << 20, Limit: 2, Order: 2}
	for r := uint64(16); r <= regionBytes(c); r *= 2 {
		for _, x := range edges(c) {
			for _, deny := range []bool{false, true} {
				b := newBoth(t, c)
				b.takes(16384)
				p := b.takes(r)[0]
				b.frees(1 << 20)
				b.write(p, pattern(r))
				stays := x.r == r || 4096 <= x.r && x.r < r
				a := b.realloc(p, x.size, deny)
				b.want("Realloc", a.e, api.OK)
				if (a.p == p) != stays {
					t.Errorf("Realloc from %d to %d: %d, it was at %d", r, x.r, a.p, p)
				}
				b.wantHeld(a.p, pattern(r)[:min(r, x.r)])
				b.is(b.usable(a.p), answer{x.r, api.OK})
				if !stays {
					b.is(b.usable(p), answer{0, api.EINVAL})
				}
				b.wantStats(api.Stats{H: 32768, L: x.r, Blocks: 1, FreePages: 8 - int(max(x.r, 4096)/4096)})
			}
		}
	}
}

// P8.4, T3: with no other place at all: in place it succeeds, denied or not; else ENOMEM, and nothing has changed.
func TestReallocWithNoRoom(t *testing.T) {
	c := api.Config{Base: 1 << 20, Limit: 1, Order: 1}
	for r := uint64(16); r <= regionBytes(c); r *= 2 {
		for _, x := range edges(c) {
			for _, deny := range []bool{false, true} {
				b := newBoth(t, c)
				var p uint64
				for at := uint64(0); at < regionBytes(c); at += r {
					p = b.takes(r)[0]
					b.write(p, pattern(r))
				}
				if x.r == r || 4096 <= x.r && x.r < r {
					b.is(b.realloc(p, x.size, deny), answer{p, api.OK})
				} else {
					b.refusedRealloc(p, x.size, deny, api.ENOMEM)
				}
				b.wantHeld(p, pattern(r)[:min(r, max(x.r, 4096))])
			}
		}
	}
}

// P8.4, T3: the old block is live while the new one is looked for: its own place, and its page's, are of no help.
func TestReallocOldIsLive(t *testing.T) {
	b := newBoth(t, api.Config{Base: 65536, Limit: 1})
	p := b.takes(16)[0]
	b.refusedRealloc(p, 32, false, api.ENOMEM)
	b.refusedRealloc(p, 4096, false, api.ENOMEM)
	b.is(b.realloc(p, 0, false), answer{p, api.OK})
	b.frees(p)
	p = b.takes(4096)[0]
	b.refusedRealloc(p, 2048, false, api.ENOMEM)
	b.is(b.realloc(p, 4095, true), answer{p, api.OK})

	b = newBoth(t, api.Config{Base: 65536, Limit: 1, Order: 1})
	p = b.takes(4096)[0]
	b.refusedRealloc(p, 8192, false, api.ENOMEM) // its buddy is free, but the two are not one block
	b.is(b.realloc(p, 2048, false), answer{69632, api.OK})
	b.is(b.realloc(69632, 1024, false), answer{65536, api.OK}) // its own page's free cells are of another size
}

// P8.4, T3: a region comes for the new block where none fits; denied, it does not.
func TestReallocGrows(t *testing.T) {
	for _, x := range []struct{ from, to uint64 }{{16, 32}, {32, 16}, {2048, 4096}, {4096, 2048}, {4096, 16}, {16, 4096}} {
		b := newBoth(t, api.Config{Base: 65536, Limit: 2})
		b.takes(x.from)
		b.write(65536, pattern(x.from))
		b.refusedRealloc(65536, x.to, true, api.ENOMEM)
		b.is(b.realloc(65536, x.to, false), answer{69632, api.OK})
		b.wantStats(api.Stats{H: 8192, L: x.to, Blocks: 1, FreePages: 1})
		b.wantHeld(69632, pattern(x.from)[:min(x.from, x.to)])
		b.is(b.realloc(69632, x.from, true), answer{65536, api.OK})
	}
}

// P8.4: the upper part of a block of pages goes back, and is handed out again; what is kept is not touched.
func TestReallocGivesUpperPart(t *testing.T) {
	for order := 1; order < 9; order++ {
		for to := range order {
			c := api.Config{Base: 1 << 20, Limit: 1, Order: order}
			b := newBoth(t, c)
			p := b.takes(regionBytes(c))[0]
			b.write(p, pattern(regionBytes(c)))
			b.is(b.realloc(p, 4096<<to, true), answer{p, api.OK})
			b.wantHeld(p, pattern(4096<<to))
			for k := to; k < order; k++ {
				b.is(b.malloc(4096<<k, true), answer{p + 4096<<k, api.OK})
			}
			b.wantHeld(p, pattern(4096<<to))
			b.refusedMalloc(4096, true, api.ENOMEM)
		}
	}
}

// P8.4: of a small block to a small one within one page's room; the old cell heads its page's list again.
func TestReallocOfSmall(t *testing.T) {
	b := newBoth(t, api.Config{Base: 65536, Limit: 1, Order: 1})
	list := b.takes(16, 16, 16)
	b.write(list[1], pattern(16))
	b.is(b.realloc(list[1], 64, false), answer{69632, api.OK})
	b.wantHeld(69632, pattern(16))
	b.is(b.malloc(16, true), answer{list[1], api.OK})
	b.write(69632, pattern(64))
	b.is(b.realloc(69632, 10, false), answer{65584, api.OK}) // the page at 69632 has no live cell then
	b.wantHeld(65584, pattern(16))
	b.is(b.malloc(4096, true), answer{69632, api.OK})
}
