package malloc_test

import (
	"bytes"
	"math"
	"testing"

	"croft/api"
)

// faults asks that no byte at p may be read or written, and no word and no more from there on.
func (b *both) faults(p uint64) {
	b.t.Helper()
	b.refused(func() answer { v, e := b.h.Load(p); return answer{uint64(v), e} }, api.EFAULT)
	b.refused(func() answer { return answer{0, b.h.Store(p, 0xa5)} }, api.EFAULT)
	b.faultsFor(p, 1)
	b.faultsWord(p)
}

func (b *both) faultsWord(p uint64) {
	b.t.Helper()
	b.refused(func() answer { v, e := b.h.LoadWord(p); return answer{v, e} }, api.EFAULT)
	b.refused(func() answer { return answer{0, b.h.StoreWord(p, 0xa5a5a5a5a5a5a5a5)} }, api.EFAULT)
	b.faultsFor(p, 8)
}

func (b *both) faultsFor(p, n uint64) {
	b.t.Helper()
	b.refused(func() answer {
		list, e := b.h.Read(p, n)
		return answer{uint64(len(list)), e}
	}, api.EFAULT)
	if n < 1<<20 {
		b.refused(func() answer { return answer{0, b.h.Write(p, bytes.Repeat([]byte{0xa5}, int(n)))} }, api.EFAULT)
	}
}

// P8.6: of each size, all bytes of a block and none beside it; words at its last place and one past it; reads and writes of all of it and of one more.
func TestBytesOfEachSize(t *testing.T) {
	c := api.Config{Base: 1 << 20, Limit: 1, Order: 2}
	for r := uint64(16); r <= regionBytes(c); r *= 2 {
		b := newBoth(t, c)
		p := b.takes(r)[0]
		b.is(b.write(p, pattern(r)), answer{0, api.OK})
		b.wantHeld(p, pattern(r))
		for _, at := range []uint64{0, 1, r / 2, r - 2, r - 1} {
			b.is(b.load(p+at), answer{uint64(pattern(r)[at]), api.OK})
			b.is(b.store(p+at, byte(at)+9), answer{0, api.OK})
			b.is(b.load(p+at), answer{uint64(byte(at) + 9), api.OK})
		}
		for _, at := range []uint64{0, 1, 3, r/2 - 4, r - 9, r - 8} {
			b.is(b.storeWord(p+at, 0x8877665544332211), answer{0, api.OK})
			b.is(b.loadWord(p+at), answer{0x8877665544332211, api.OK})
			b.is(b.load(p+at), answer{0x11, api.OK})
			b.is(b.load(p+at+7), answer{0x88, api.OK})
		}
		for over := uint64(1); over <= 8; over++ {
			b.faultsWord(p + r - 8 + over)
		}
		b.faults(p + r)
		b.faults(p - 1)
		for _, n := range []uint64{r + 1, r + 8, 2 * r, 1 << 40, 1 << 63, math.MaxUint64 - p, math.MaxUint64 - p + 1, -p + 1, math.MaxUint64} {
			b.faultsFor(p, n)
			b.faultsFor(p+1, n)
		}
		b.faultsFor(p+1, r)
		b.faultsFor(p+r-1, 2)
		b.faultsFor(p+r-1, math.MaxUint64)
		b.is(b.write(p+1, pattern(r-1)), answer{0, api.OK})
		b.wantHeld(p+1, pattern(r-1))
		b.is(b.write(p+r-1, []byte{5}), answer{0, api.OK})
		b.wantHeld(p+r-1, []byte{5})
	}
}

// P8.6: across two live blocks that lie side by side there is no word and no row of bytes, of whatever sizes they are.
func TestAcross(t *testing.T) {
	c := api.Config{Base: 1 << 20, Limit: 2, Order: 2}
	for r := uint64(16); r <= regionBytes(c); r *= 2 {
		b := newBoth(t, c)
		b.across(b.takes(r), r, b.takes(r))
	}
	b := newBoth(t, c)
	first := b.takes(16, 4096)
	for range 255 {
		b.takes(16)
	}
	b.across([]uint64{first[1] - 16}, 16, first[1:]) // a cell at its page's end, and a block of pages behind it
	b.across(first[1:], 4096, b.takes(8192))
}

// across asks of the block at one[0], of that size, and the one that begins at its end.
func (b *both) across(one []uint64, size uint64, other []uint64) {
	b.t.Helper()
	if one[0]+size != other[0] {
		b.t.Fatalf("%d and %d do not lie side by side", one[0], other[0])
	}
	b.is(b.storeWord(other[0]-8, 1), answer{0, api.OK})
	b.is(b.storeWord(other[0], 2), answer{0, api.OK})
	for over := uint64(1); over < 8; over++ {
		b.faultsWord(other[0] - over)
	}
	b.faultsFor(other[0]-1, 2)
	b.faultsFor(one[0], size+1)
	b.is(b.loadWord(other[0]-8), answer{1, api.OK})
	b.is(b.loadWord(other[0]), answer{2, api.OK})
}

// P8.6, T5: outside of live blocks nothing may be read or written: free cells, free pages, what is not committed; all places of a block that was given back.
func TestOutside(t *testing.T) {
	b := newBoth(t, api.Config{Base: 65536, Limit: 2, Order: 2})
	none := []uint64{0, 1, 8, 65535, 65536, 69632, 98304, 1 << 63, math.MaxUint64, math.MaxUint64 - 7, math.MaxUint64 - 8}
	for _, p := range none {
		b.faults(p)
	}
	b.takes(32, 4096)
	for _, p := range []uint64{0, 1, 65528, 65535, 65568, 65568 + 24, 69631, 73728, 77824, 81919, 81920, 81921, 98304, 1 << 63, math.MaxUint64} {
		b.faults(p)
	}
	list := b.takes(32, 8192, 16384)
	for _, p := range list {
		r := b.w.live[p]
		b.fill(p, 0x33)
		b.frees(p)
		for _, at := range []uint64{0, 1, 8, 15, 16, 31, r / 2, r - 8, r - 1} {
			if at < r {
				b.faults(p + at)
			}
		}
	}
	b.trim()
	b.faults(81920)
}

// P8.6: of no bytes Read and Write succeed, whatever p is, and do nothing; nil and an empty list are one.
func TestNoBytes(t *testing.T) {
	b := newBoth(t, example())
	for range 2 {
		for _, p := range []uint64{0, 1, 4096, 65535, 65536, 65540, 65552, 69632, 73728, 81920, 1 << 63, math.MaxUint64} {
			b.refused(func() answer { list, e := b.h.Read(p, 0); return answer{uint64(len(list)), e} }, api.OK)
			b.refused(func() answer { return answer{0, b.h.Write(p, nil)} }, api.OK)
			b.refused(func() answer { return answer{0, b.h.Write(p, []byte{})} }, api.OK)
			b.refused(func() answer { return answer{0, b.h.Write(p, []byte{1, 2, 3}[:0])} }, api.OK)
		}
		b.takes(16)
	}
}

// P8.6: every place of a heap with blocks of several sizes, byte by byte and word by word.
func TestEveryByte(t *testing.T) {
	c := api.Config{Base: 1 << 20, Limit: 1, Order: 3}
	b := newBoth(t, c)
	list := b.takes(16, 32, 16, 2048, 4096, 8192, 16, 2048)
	b.frees(list[2])
	for p := uint64(1<<20 - 20); p < 1<<20+32768+20; p++ {
		b.store(p, byte(p*7))
		b.load(p)
		b.loadWord(p)
	}
	b.check()
	for p := uint64(1<<20 - 20); p < 1<<20+32768+20; p++ {
		b.storeWord(p, p*0x9e3779b97f4a7c15)
	}
	b.check()
}

// T5: what nobody stored stays some one value while other blocks come and go.
func TestNotStored(t *testing.T) {
	for seed := range 20 {
		row := numbers(seed)
		b := newBoth(t, api.Config{Base: 1 << 20, Limit: 3, Order: 2})
		for range 40 {
			b.call(&row)
		}
		for _, size := range []uint64{16, 300, 5000} {
			a := b.malloc(size, false)
			if a.e != api.OK {
				continue
			}
			held := b.read(a.p, b.w.live[a.p])
			other := newBothOf(t, b.h.Image(), b.w)
			for range 60 {
				other.callBut(&row, a.p)
			}
			other.wantHeld(a.p, held)
		}
	}
}

// R4: a list that is handed in or told has nothing in common with the heap, its spare room included.
func TestBytesHandedInAndTold(t *testing.T) {
	b := newBoth(t, example())
	p := b.takes(64)[0]
	room := append(pattern(64), 70, 71, 72)
	want := bytes.Clone(room)
	b.write(p, room[:64])
	b.h.Write(p, room) // more than the block has
	if !bytes.Equal(room, want) {
		t.Error("Write has changed the list that it was handed")
	}
	clear(room)
	b.wantHeld(p, pattern(64))
	one, other := b.read(p, 64), b.read(p, 64)
	one = one[:cap(one)]
	clear(one)
	if !bytes.Equal(other, pattern(64)) {
		t.Error("two lists that Read told share memory")
	}
	b.wantHeld(p, pattern(64))
	b.fill(p, 9)
	if !bytes.Equal(other, pattern(64)) {
		t.Error("what Read told is the heap's own")
	}
}
