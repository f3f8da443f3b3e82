package cache_test

import (
	"bytes"
	"slices"
	"testing"

	"croft/api"
	"croft/cache"
)

// refusesAddress asks that a block that is none is refused by all calls that ask for one, by all workers, and nothing changes.
func refusesAddress(t *testing.T, s *cache.Shared, workers int, p uint64) {
	t.Helper()
	unchanged(t, p, s, func() {
		for worker := range workers {
			wantsError(t, "Free", s.Free(worker, p), api.EINVAL)
			for _, size := range []uint64{0, 1, 16, 17, 4096, 8192, 8193, 1<<64 - 1} {
				wants(t, "Realloc", told(s.Realloc(worker, p, size, false)), answer{0, api.EINVAL})
				wants(t, "Realloc, denied", told(s.Realloc(worker, p, size, true)), answer{0, api.EINVAL})
			}
		}
		wants(t, "UsableSize", told(s.UsableSize(p)), answer{0, api.EINVAL})
	})
}

// faults asks that no byte at p can be read or written, but none at all.
func faults(t *testing.T, s *cache.Shared, p uint64) {
	t.Helper()
	unchanged(t, p, s, func() {
		for _, n := range []uint64{1, 2, 8, 16, 4096, max(1, -p), 1<<64 - 1} {
			if held, e := s.Read(p, n); len(held) != 0 || e != api.EFAULT {
				t.Fatalf("Read(%d, %d): %v, %v", p, n, held, e)
			}
		}
		for _, n := range []int{1, 2, 8, 16, 4096} {
			wantsError(t, "Write", s.Write(p, make([]byte, n)), api.EFAULT)
		}
		if held, e := s.Read(p, 0); len(held) != 0 || e != api.OK {
			t.Fatalf("Read(%d, 0): %v, %v", p, held, e)
		}
		wantsError(t, "Write of nothing", s.Write(p, nil), api.OK)
		wantsError(t, "Write of nothing", s.Write(p, []byte{}), api.OK)
	})
}

// P13.2, P13.4 to P13.6: a block of each class that is at hand is none for every call, at its first byte and at all others; what lies beside it is not touched by that.
func TestAtHandIsNotSeen(t *testing.T) {
	for _, size := range smallSizes() {
		s := newShared(t, example(), 3, 2)
		list := takes(t, s, 0, size, 2)
		wantsError(t, "Write", s.Write(list[1], bytes.Repeat([]byte{9}, int(size))), api.OK)
		frees(t, s, 1, list[0])
		wantsLive(t, s, api.Block{P: list[1], Size: size})
		for p := list[0]; p < list[0]+size; p++ {
			if p < list[0]+40 || p > list[0]+size-3 || p%512 < 2 {
				refusesAddress(t, s, 3, p)
				faults(t, s, p)
			}
		}
		wants(t, "the other block", told(s.UsableSize(list[1])), answer{size, api.OK})
		if held, e := s.Read(list[1], size); e != api.OK || !bytes.Equal(held, bytes.Repeat([]byte{9}, int(size))) {
			t.Errorf("the other block: %v, %v", held, e)
		}
		if _, e := s.Read(list[1]-1, 2); e != api.EFAULT {
			t.Errorf("from the block at hand into the other: %v", e)
		}
		wants(t, "it comes back", told(s.Malloc(1, size, true)), answer{list[0], api.OK})
		wants(t, "it is seen again", told(s.UsableSize(list[0])), answer{size, api.OK})
	}
}

// P13.6, P13.4, P13.5: addresses that are no block's for other reasons: inside one, beyond all, in what is free.
func TestAddressesThatAreNone(t *testing.T) {
	s := newShared(t, example(), 2, 2)
	p := takes(t, s, 0, 64, 1)[0]
	q := takes(t, s, 1, 4096, 1)[0]
	for _, none := range []uint64{p + 1, p + 16, p + 63, q + 1, q + 16, q + 4095} {
		refusesAddress(t, s, 2, none)
	}
	for _, none := range []uint64{1, 4096, p - 1, p + 64, p + 128, q + 4096, 65535, 65536 + 8192, 65536 + 16384, 1 << 63, 1<<64 - 1, 1<<64 - 4096} {
		refusesAddress(t, s, 2, none)
		faults(t, s, none)
	}
	faults(t, s, 0)
	wants(t, "UsableSize(0)", told(s.UsableSize(0)), answer{0, api.EINVAL})
	for _, b := range []api.Block{{P: p, Size: 64}, {P: q, Size: 4096}} {
		if _, e := s.Read(b.P, b.Size+1); e != api.EFAULT {
			t.Errorf("one byte too many: %v", e)
		}
		if _, e := s.Read(b.P+b.Size-1, 2); e != api.EFAULT {
			t.Errorf("beyond the end: %v", e)
		}
		wantsError(t, "beyond the end", s.Write(b.P+1, make([]byte, b.Size)), api.EFAULT)
	}
}

// P13.6: all bytes of a block may be read and written, whoever asked for it; what is read is what was written last.
func TestBytes(t *testing.T) {
	row := numbers(4)
	s := newShared(t, config(3, 4), 4, 2)
	for size := uint64(16); size <= 32768; size *= 2 {
		p := takes(t, s, int(size)%3, size, 1)[0]
		want := row.bytes(int(size))
		wantsError(t, "Write", s.Write(p, want), api.OK)
		for range 30 {
			at := row.below(int(size))
			piece := row.bytes(row.below(int(size) - at + 1))
			copy(want[at:], piece)
			wantsError(t, "Write", s.Write(p+uint64(at), piece), api.OK)
			at = row.below(int(size))
			n := row.below(int(size) - at + 1)
			if got, e := s.Read(p+uint64(at), uint64(n)); e != api.OK || !bytes.Equal(got, want[at:at+n]) {
				t.Fatalf("Read(%d, %d): %v", p+uint64(at), n, e)
			}
		}
	}
}

// P13.3: of a class the block that came to hand last is handed out first, by each of the calls; the other classes and the other workers are left alone.
func TestLastFirst(t *testing.T) {
	for class, size := range smallSizes() {
		s := newShared(t, config(6, 1), 3, 4)
		list := takes(t, s, 2, size, 4)
		others := takes(t, s, 1, smallSizes()[(class+1)%8], 2)
		order := []uint64{list[2], list[0], list[3], list[1]}
		frees(t, s, 0, order[0], order[1])
		frees(t, s, 0, others[0])
		frees(t, s, 0, order[2], order[3])
		frees(t, s, 1, others[1])
		wants(t, "Malloc", told(s.Malloc(0, size, true)), answer{order[3], api.OK})
		wants(t, "Calloc", told(s.Calloc(0, size/2, 2, true)), answer{order[2], api.OK})
		wants(t, "AlignedAlloc", told(s.AlignedAlloc(0, size, 1, true)), answer{order[1], api.OK})
		wants(t, "Realloc", told(s.Realloc(0, 0, size-1, true)), answer{order[0], api.OK})
		kept := make([]int, 8)
		kept[(class+1)%8] = 1
		wantsKept(t, s, 0, kept...)
		wantsKept(t, s, 1, kept...)
		wantsKept(t, s, 2)
	}
}

// P13.3: which class it is says the size for the request: the least power of 2 not below the size, the alignment and 16.
func TestClassOfRequest(t *testing.T) {
	for class, size := range smallSizes() {
		for _, x := range []struct {
			align, size uint64
			fits        bool
		}{
			{1, size, true}, {1, size/2 + 1, true}, {size, 0, true}, {size, 1, true}, {size, size, true}, {2, size - 1, true},
			{1, size + 1, false}, {2 * size, 1, false}, {2 * size, size, false}, {1, size / 2, size == 16}, {size / 2, 1, size == 16},
		} {
			s := newShared(t, config(6, 1), 1, 1)
			p := takes(t, s, 0, size, 1)[0]
			frees(t, s, 0, p)
			got, e := s.AlignedAlloc(0, x.align, x.size, true)
			if e != api.OK || (got == p) != x.fits {
				t.Errorf("AlignedAlloc(%d, %d) with %d at hand: %d, %v", x.align, x.size, p, got, e)
			}
			if left := s.Kept(0)[class]; (left == 0) != x.fits {
				t.Errorf("AlignedAlloc(%d, %d): %d are left", x.align, x.size, left)
			}
		}
	}
}

// P13.3: what another worker has at hand is not taken: the heap is asked.
func TestNotFromOthers(t *testing.T) {
	for _, size := range smallSizes() {
		s := newShared(t, config(6, 1), 2, 8)
		list := takes(t, s, 0, size, 3)
		frees(t, s, 0, list...)
		for range 3 {
			p, e := s.Malloc(1, size, true)
			if e != api.OK || slices.Contains(list, p) {
				t.Fatalf("Malloc: %d, %v", p, e)
			}
		}
		class := slices.Index(smallSizes(), size)
		if got := s.Kept(0)[class]; got != 3 {
			t.Errorf("%d are left", got)
		}
	}
}

// P13.4: a block comes to the hand of the worker who frees it, whoever asked for it.
func TestFreedByOthers(t *testing.T) {
	s := newShared(t, example(), 4, 3)
	list := takes(t, s, 0, 32, 4)
	for worker, p := range list {
		frees(t, s, worker, p)
	}
	for worker, p := range slices.Backward(list) {
		wantsKept(t, s, worker, 0, 1)
		wants(t, worker, told(s.Malloc(worker, 32, true)), answer{p, api.OK})
	}
}

// P13.4: a worker has at most depth blocks of a class; the next ones go back to the heap, which hands them out again.
func TestOneMoreThanDepth(t *testing.T) {
	for _, depth := range []int{0, 1, 2, 5, 64} {
		for class, size := range smallSizes() {
			b := newBoth(t, config(8, 1), 2, depth)
			list := takes(t, b.s, 0, size, depth+3)
			for range list {
				b.w.malloc(0, size, false)
			}
			for i, p := range list {
				b.free(0, p)
				if got := b.s.Kept(0)[class]; got != min(i+1, depth) {
					t.Fatalf("%d are kept behind %d, of depth %d", got, i+1, depth)
				}
				b.check()
			}
			wantsError(t, "the heap's", b.malloc(1, size, true).e, api.OK)
			for i := range depth {
				wants(t, "from the hand", b.malloc(0, size, true), answer{list[depth-1-i], api.OK})
			}
			wantsError(t, "the heap's again", b.malloc(0, size, true).e, api.OK)
			b.check()
		}
	}
}

// P13.4: a block of a page or more does not come to hand, and no request of such a size looks there.
func TestGreatOnes(t *testing.T) {
	for size := uint64(4096); size <= 32768; size *= 2 {
		s := newShared(t, config(3, 1), 1, 64)
		p := takes(t, s, 0, size, 1)[0]
		frees(t, s, 0, p)
		wantsKept(t, s, 0)
		if got := s.Drain(); got != 0 {
			t.Errorf("Drain: %d", got)
		}
		wants(t, size, told(s.Malloc(0, size, true)), answer{p, api.OK})
	}
}

// P13.4: Free(0) does nothing; P13.5: Realloc(0) is Malloc.
func TestAddressZero(t *testing.T) {
	b := newBoth(t, example(), 2, 2)
	p := b.malloc(0, 16, false).p
	b.malloc(0, 16, false)
	b.free(0, p)
	unchanged(t, "Free(0)", b.s, func() {
		wantsError(t, "Free(0)", b.s.Free(0, 0), api.OK)
		wantsError(t, "Free(0)", b.s.Free(1, 0), api.OK)
	})
	wants(t, "Realloc(0)", b.realloc(0, 0, 16, true), answer{p, api.OK})
	for _, size := range []uint64{0, 1, 17, 2048, 2049, 8192, 8193, 1<<64 - 1} {
		for worker := range 2 {
			b.realloc(worker, 0, size, true)
			b.realloc(worker, 0, size, false)
			b.check()
		}
	}
}

// R2: a worker that is none is refused at every call that asks for one, with every other argument, those too that are refused themselves; nothing changes.
func TestWorkersThatAreNone(t *testing.T) {
	s := newShared(t, example(), 3, 2)
	live := takes(t, s, 0, 16, 2)
	frees(t, s, 0, live[0])
	for _, none := range noWorkers(3) {
		unchanged(t, none, s, func() {
			for _, size := range edges() {
				for _, deny := range []bool{false, true} {
					wants(t, "Malloc", told(s.Malloc(none, size, deny)), answer{0, api.EINVAL})
					wants(t, "Calloc", told(s.Calloc(none, size, size, deny)), answer{0, api.EINVAL})
					wants(t, "Calloc", told(s.Calloc(none, 1, size, deny)), answer{0, api.EINVAL})
					for _, align := range edges() {
						wants(t, "AlignedAlloc", told(s.AlignedAlloc(none, align, size, deny)), answer{0, api.EINVAL})
					}
					for _, p := range []uint64{0, 1, live[0], live[1]} {
						wants(t, "Realloc", told(s.Realloc(none, p, size, deny)), answer{0, api.EINVAL})
					}
				}
			}
			for _, p := range []uint64{0, 1, live[0], live[1]} {
				wantsError(t, "Free", s.Free(none, p), api.EINVAL)
			}
			if got := s.Kept(none); len(got) != 0 {
				t.Errorf("Kept(%d): %v", none, got)
			}
		})
	}
}

// R2, R3: an alignment that is none is told first; then what is too big; nothing changes, not even what is at hand.
func TestRefusedRequests(t *testing.T) {
	s := newShared(t, example(), 2, 2)
	frees(t, s, 1, takes(t, s, 0, 16, 2)...)
	frees(t, s, 0, takes(t, s, 0, 2048, 1)...)
	for _, deny := range []bool{false, true} {
		unchanged(t, "a request", s, func() {
			for _, align := range []uint64{0, 3, 5, 6, 24, 4095, 8193, 1<<63 + 1, 1<<64 - 1} {
				for _, size := range edges() {
					wants(t, align, told(s.AlignedAlloc(1, align, size, deny)), answer{0, api.EINVAL})
				}
			}
			for _, size := range []uint64{8193, 16384, 1 << 32, 1 << 63, 1<<63 + 1, 1<<64 - 1} {
				wants(t, size, told(s.Malloc(1, size, deny)), answer{0, api.ETOOBIG})
				wants(t, size, told(s.Calloc(1, 1, size, deny)), answer{0, api.ETOOBIG})
				wants(t, size, told(s.AlignedAlloc(1, 16, size, deny)), answer{0, api.ETOOBIG})
				wants(t, size, told(s.Realloc(1, 0, size, deny)), answer{0, api.ETOOBIG})
			}
			for _, align := range []uint64{16384, 1 << 32, 1 << 63} {
				wants(t, align, told(s.AlignedAlloc(1, align, 1, deny)), answer{0, api.ETOOBIG})
			}
			for _, x := range [][2]uint64{{1 << 32, 1 << 32}, {2, 1 << 63}, {1<<64 - 1, 2}, {1<<64 - 1, 1<<64 - 1}, {3, 1<<63 - 1}, {8193, 1}, {1, 8193}, {91, 91}, {1<<63 + 8, 2}} {
				wants(t, x, told(s.Calloc(1, x[0], x[1], deny)), answer{0, api.ETOOBIG})
			}
		})
	}
	wantsKept(t, s, 1, 2)
	wantsKept(t, s, 0, 0, 0, 0, 0, 0, 0, 0, 1)
}
