package cache_test

import (
	"bytes"
	"slices"
	"testing"

	"croft/api"
)

// P13.5: from each size to each: in place just if the size stays, or is one of whole pages below; else the old block comes to hand if it is small, and to the heap if not; the bytes go along.
func TestReallocEach(t *testing.T) {
	for size := uint64(16); size <= 65536; size *= 2 {
		for to := uint64(16); to <= 65536; to *= 2 {
			for _, deny := range []bool{false, true} {
				row := numbers(size + to)
				b := newBoth(t, config(4, 3), 2, 1)
				for range 2 { // two regions have room for both blocks
					b.malloc(0, 65536, false)
				}
				b.free(0, 1<<32)
				b.free(0, 1<<32+65536)
				p := b.malloc(0, size, false).p
				held := row.bytes(int(size))
				b.write(p, held)
				a := b.realloc(1, p, to-uint64(row.below(int(to/2))), deny)
				wantsError(t, "Realloc", a.e, api.OK)
				inPlace := to == size || 4096 <= to && to < size
				if (a.p == p) != inPlace {
					t.Fatalf("from %d to %d: from %d to %d", size, to, p, a.p)
				}
				n := min(size, to)
				if got := b.read(a.p, n); !bytes.Equal(got, held[:n]) {
					t.Fatalf("from %d to %d: other bytes", size, to)
				}
				kept := make([]int, 8)
				if class := slices.Index(smallSizes(), size); class >= 0 && !inPlace {
					kept[class] = 1
				}
				wantsKept(t, b.s, 1, kept...)
				wantsKept(t, b.s, 0)
				wantsLive(t, b.s, api.Block{P: a.p, Size: to})
				b.check()
			}
		}
	}
}

// P13.5: the size for the request decides, whatever was asked for: at its edges.
func TestReallocEdges(t *testing.T) {
	s := newShared(t, config(2, 2), 1, 4)
	p := takes(t, s, 0, 2048, 1)[0]
	for _, size := range []uint64{2048, 2047, 1025} {
		wants(t, size, told(s.Realloc(0, p, size, true)), answer{p, api.OK})
	}
	wantsKept(t, s, 0)
	q, e := s.Realloc(0, p, 1024, true)
	if e != api.OK || q == p {
		t.Errorf("one less: %d, %v", q, e)
	}
	wantsKept(t, s, 0, 0, 0, 0, 0, 0, 0, 0, 1)
	wants(t, "from the hand", told(s.Realloc(0, q, 1025, true)), answer{p, api.OK})
	wantsKept(t, s, 0, 0, 0, 0, 0, 0, 0, 1)
	great := takes(t, s, 0, 16384, 1)[0]
	for _, size := range []uint64{16384, 8193, 8192, 4097, 4096, 2049} {
		wants(t, size, told(s.Realloc(0, great, size, true)), answer{great, api.OK})
	}
	wants(t, "UsableSize", told(s.UsableSize(great)), answer{4096, api.OK})
	wants(t, "the upper part is free", told(s.Malloc(0, 8192, true)), answer{great + 8192, api.OK})
	small, e := s.Realloc(0, great, 0, true)
	wantsError(t, "to the least", e, api.OK)
	wants(t, "to the least", told(s.UsableSize(small)), answer{16, api.OK})
}

// P13.5: the old block goes to the heap, if the hand is full, or the depth is 0.
func TestReallocWithFullHand(t *testing.T) {
	for _, depth := range []int{0, 1, 3} {
		b := newBoth(t, config(3, 1), 1, depth)
		list := make([]uint64, depth+2)
		for i := range list {
			list[i] = b.malloc(0, 32, false).p
		}
		for _, p := range list[:depth+1] {
			wantsError(t, "Realloc", b.realloc(0, p, 64, true).e, api.OK)
			b.check()
		}
		wantsKept(t, b.s, 0, 0, depth)
		for i := range depth {
			wants(t, "the last first", b.malloc(0, 32, true), answer{list[depth-1-i], api.OK})
		}
		wants(t, "the heap's", b.malloc(0, 32, true), answer{list[depth], api.OK})
	}
}

// P13.5: the new block comes from the hand, if there is one of its class, also where the heap has no place.
func TestReallocFromHand(t *testing.T) {
	for _, size := range smallSizes() {
		s, p := full(t, 2, size)
		wantsError(t, "Write", s.Write(65536, []byte("what it holds...")), api.OK)
		wants(t, size, told(s.Realloc(0, 65536, size, true)), answer{p, api.OK})
		if held, e := s.Read(p, 16); e != api.OK || string(held) != "what it holds..." {
			t.Errorf("%q, %v", held, e)
		}
		wants(t, "the old one is the heap's", told(s.Malloc(1, 4096, true)), answer{65536, api.OK})
	}
}

// P13.5: a block that finds its place only where what was at hand has gone back, is not given back itself ahead of that.
func TestReallocDrains(t *testing.T) {
	for _, deny := range []bool{false, true} {
		s := newShared(t, example(), 2, 2)
		p := takes(t, s, 0, 4096, 1)[0]
		takes(t, s, 0, 8192, 1)
		q := takes(t, s, 0, 16, 1)[0]
		frees(t, s, 1, q)
		wantsError(t, "Write", s.Write(p+16, []byte("here")), api.OK)
		wants(t, "to another page", told(s.Realloc(0, p, 32, deny)), answer{q, api.OK})
		if held, e := s.Read(q+16, 4); e != api.OK || string(held) != "here" {
			t.Errorf("%q, %v", held, e)
		}
		wantsKept(t, s, 1)
		wantsRegions(t, s, 2)
	}
	s := newShared(t, example(), 2, 2)
	p := takes(t, s, 0, 8192, 1)[0]
	wants(t, "alone, and denied", told(s.Realloc(0, p, 16, true)), answer{0, api.ENOMEM})
	wants(t, "it stays", told(s.UsableSize(p)), answer{8192, api.OK})
}

// P13.5, R2: of a block the size that is too big is told; nothing changes, not even what is at hand.
func TestReallocTooBig(t *testing.T) {
	s, _ := full(t, 2, 16)
	for _, size := range []uint64{8193, 16384, 1 << 32, 1 << 63, 1<<63 + 1, 1<<64 - 1} {
		for _, deny := range []bool{false, true} {
			unchanged(t, size, s, func() {
				wants(t, size, told(s.Realloc(0, 65536, size, deny)), answer{0, api.ETOOBIG})
			})
		}
	}
}
