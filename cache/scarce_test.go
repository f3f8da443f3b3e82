package cache_test

import (
	"bytes"
	"testing"

	"croft/api"
	"croft/cache"
)

// full makes a Shared of the example's Config with so many regions, whose pages blocks of 4096 bytes have; but the last page has one of a small size, which worker 0 has at hand.
func full(t *testing.T, regions int, size uint64) (*cache.Shared, uint64) {
	t.Helper()
	s := newShared(t, example(), 3, 2)
	takes(t, s, 1, 4096, 2*regions-1)
	p := takes(t, s, 1, size, 1)[0]
	frees(t, s, 0, p)
	return s, p
}

// wantsRegions asks how many there are: behind that nothing is at hand.
func wantsRegions(t *testing.T, s *cache.Shared, want uint64) {
	t.Helper()
	if got := s.Stats().H; got != want*8192 {
		t.Fatalf("H is %d, not %d regions", got, want)
	}
}

// P13.3: where the heap has no place, but has one when all blocks at hand are given back: no region comes, denied or not, whatever class was at hand, and whoever had it.
func TestDrainMends(t *testing.T) {
	for regions := 1; regions <= 2; regions++ {
		for class, size := range smallSizes() {
			for _, asked := range []uint64{16, 32, 64, 128, 256, 512, 1024, 2048, 4096} {
				for _, deny := range []bool{false, true} {
					s, p := full(t, regions, size)
					if asked == size {
						continue // the page of that size has cells, or is the worker's own: see TestOwnClass
					}
					ahead := stateOf(s)
					wants(t, asked, told(s.Malloc(2, asked, deny)), answer{p - p%4096, api.OK})
					wantsKept(t, s, 0)
					if ahead.kept[0][class] != 1 {
						t.Fatal("nothing was at hand")
					}
					wantsRegions(t, s, uint64(regions))
				}
			}
		}
	}
}

// P13.3: a page whose blocks of the class are all at another worker's hand has cells for it, or is given back: no region comes.
func TestOwnClass(t *testing.T) {
	for class, size := range smallSizes() {
		for _, deny := range []bool{false, true} {
			s := newShared(t, example(), 2, 64)
			takes(t, s, 1, 4096, 1)
			list := takes(t, s, 1, size, min(64, 4096/int(size)))
			frees(t, s, 0, list...)
			p, e := s.Malloc(1, size, deny)
			wantsError(t, size, e, api.OK)
			if p/4096 != list[0]/4096 {
				t.Errorf("size %d: %d is on another page than %d", size, p, list[0])
			}
			want := len(list)
			if len(list) == 4096/int(size) {
				want = 0 // the page was covered: what was at hand had to go back
			}
			if got := s.Kept(0)[class]; got != want {
				t.Errorf("size %d: %d are kept, not %d", size, got, want)
			}
			wantsRegions(t, s, 1)
		}
	}
}

// P13.3: the whole region comes back, though blocks of all classes lay all over it in many hands.
func TestDrainMendsARegion(t *testing.T) {
	for _, deny := range []bool{false, true} {
		s := newShared(t, config(4, 1), 16, 4)
		var list []uint64
		for _, size := range smallSizes() {
			list = append(list, takes(t, s, 3, size, 64/8)...)
		}
		for i, p := range list {
			frees(t, s, i%16, p)
		}
		wants(t, "all of it", told(s.Malloc(5, 65536, deny)), answer{1 << 32, api.OK})
		for worker := range 16 {
			wantsKept(t, s, worker)
		}
	}
}

// P13.3, R3: where that does not mend it, a denied call answers ENOMEM, at the Limit every call; what is handed out, what it holds and H stay; what was at hand is the heap's.
func TestDrainDoesNotMend(t *testing.T) {
	for regions := 1; regions <= 2; regions++ {
		for _, deny := range []bool{false, true} {
			if regions < 2 && !deny {
				continue
			}
			for name, ask := range map[string]func(s *cache.Shared) answer{
				"Malloc":       func(s *cache.Shared) answer { return told(s.Malloc(2, 8192, deny)) },
				"Calloc":       func(s *cache.Shared) answer { return told(s.Calloc(2, 2, 4096, deny)) },
				"AlignedAlloc": func(s *cache.Shared) answer { return told(s.AlignedAlloc(2, 8192, 1, deny)) },
				"Realloc":      func(s *cache.Shared) answer { return told(s.Realloc(2, 65536, 5000, deny)) },
				"Realloc(0)":   func(s *cache.Shared) answer { return told(s.Realloc(2, 0, 5000, deny)) },
			} {
				s, p := full(t, regions, 16)
				wantsError(t, "Write", s.Write(65536, bytes.Repeat([]byte{7}, 4096)), api.OK)
				ahead := stateOf(s)
				wants(t, name, ask(s), answer{0, api.ENOMEM})
				if !sameOut(stateOf(s), ahead) {
					t.Errorf("%s: what is handed out has changed", name)
				}
				for worker := range 3 {
					wantsKept(t, s, worker)
				}
				wantsRegions(t, s, uint64(regions))
				wants(t, "the page is free", told(s.Malloc(1, 4096, true)), answer{p - p%4096, api.OK})
			}
		}
	}
}

// P13.3: below the Limit a region comes for a call that is not denied, and for a denied one none; ahead of it what is at hand has gone back.
func TestRegionComes(t *testing.T) {
	s, _ := full(t, 1, 64)
	wants(t, "denied", told(s.Malloc(1, 8192, true)), answer{0, api.ENOMEM})
	wantsKept(t, s, 0)
	s, _ = full(t, 1, 64)
	wants(t, "not denied", told(s.Malloc(1, 8192, false)), answer{65536 + 8192, api.OK})
	wantsKept(t, s, 0)
	wantsRegions(t, s, 2)
	s = newShared(t, example(), 1, 1)
	wants(t, "the first, denied", told(s.Malloc(0, 1, true)), answer{0, api.ENOMEM})
	wants(t, "the first", told(s.Malloc(0, 1, false)), answer{65536, api.OK})
}

// P13.3: where the heap has a place, what is at hand stays there.
func TestNoDrain(t *testing.T) {
	for _, deny := range []bool{false, true} {
		s := newShared(t, config(6, 1), 2, 8)
		for _, size := range smallSizes() {
			frees(t, s, 0, takes(t, s, 0, size, 2)...)
		}
		for size := uint64(16); size <= 65536; size *= 2 {
			_, e := s.Malloc(1, size, deny)
			wantsError(t, size, e, api.OK)
			wantsKept(t, s, 0, 2, 2, 2, 2, 2, 2, 2, 2)
		}
	}
}

// P13.3: what stands at the worker's own hand is handed out, also where no other place is left, and at the Limit.
func TestLastPlaceIsAtHand(t *testing.T) {
	for _, size := range smallSizes() {
		s, p := full(t, 2, size)
		wants(t, size, told(s.Malloc(0, size, true)), answer{p, api.OK})
		wantsKept(t, s, 0)
		takes(t, s, 0, size, 4096/int(size)-1)
		wants(t, size, told(s.Malloc(0, size, false)), answer{0, api.ENOMEM})
	}
}

// P13.3: Calloc's block is all 0: one from the hand, one from the heap, one of what had to go back, one of whole pages.
func TestZeros(t *testing.T) {
	row := numbers(9)
	zero := func(s *cache.Shared, p, size uint64) {
		t.Helper()
		if held, e := s.Read(p, size); e != api.OK || !bytes.Equal(held, make([]byte, size)) {
			t.Fatalf("Calloc of %d: %v, %v", size, held, e)
		}
	}
	for size := uint64(16); size <= 8192; size *= 2 {
		s := newShared(t, example(), 2, 2)
		list := takes(t, s, 0, size, min(3, int(16384/size)))
		for _, p := range list {
			wantsError(t, "Write", s.Write(p, row.bytes(int(size))), api.OK)
		}
		frees(t, s, 0, list...)
		for _, x := range [][2]uint64{{size, 1}, {1, size}, {2, size / 2}} {
			p, e := s.Calloc(0, x[0], x[1], false)
			if e == api.ENOMEM && size == 8192 {
				break
			}
			wantsError(t, "Calloc", e, api.OK)
			zero(s, p, size)
		}
	}
	for _, size := range smallSizes() {
		s, p := full(t, 2, size)
		wants(t, "Calloc", told(s.Calloc(0, 1, size/2+1, true)), answer{p, api.OK})
		zero(s, p, size)
		s, p = full(t, 2, size)
		wants(t, "Calloc of a page", told(s.Calloc(1, 1, 4096, true)), answer{p - p%4096, api.OK})
		zero(s, p, 4096)
	}
	s := newShared(t, example(), 1, 1)
	p := takes(t, s, 0, 16, 1)[0]
	wantsError(t, "Write", s.Write(p, row.bytes(16)), api.OK)
	frees(t, s, 0, p)
	wants(t, "of nothing", told(s.Calloc(0, 0, 1<<63, true)), answer{p, api.OK})
	zero(s, p, 16)
}
