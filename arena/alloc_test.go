package arena_test

import (
	"testing"

	"croft/api"
)

// P15.2, R2: an align that is 0 or no power of 2, whatever else is wrong, with a top and without one, denied or not.
func TestWrongAlign(t *testing.T) {
	h := newHeap(t, example())
	a := newArena(t, h, 100)
	for range 2 {
		for _, align := range []uint64{0, 3, 5, 6, 7, 12, 4095, 4097, 8191, 8193, 1<<63 - 1, 1<<63 + 1, most - 1, most} {
			for _, n := range []uint64{0, 1, 100, 8192, 8193, 1 << 63, most} {
				refuses(t, a, h, n, align, false, api.EINVAL)
				refuses(t, a, h, n, align, true, api.EINVAL)
			}
		}
		takes(t, a, 1, 1)
	}
}

// P15.2: the size for the request above R, by n, by align, by both; and just R.
func TestTooBig(t *testing.T) {
	for order := range 9 {
		c := config(order, 3)
		r := regionBytes(c)
		h := newHeap(t, c)
		a := newArena(t, h, 100)
		for range 2 {
			for _, deny := range []bool{false, true} {
				for _, n := range []uint64{r + 1, 2 * r, 1 << 32, 1 << 63, 1<<63 + 1, most - 1, most} {
					for _, align := range []uint64{1, 16, 4096, r, 2 * r, 1 << 63} {
						refuses(t, a, h, n, align, deny, api.ETOOBIG)
					}
				}
				for _, align := range []uint64{2 * r, 1 << 32, 1 << 62, 1 << 63} {
					for _, n := range []uint64{0, 1, r} {
						refuses(t, a, h, n, align, deny, api.ETOOBIG)
					}
				}
			}
			takes(t, a, 1, 1)
		}
		wants(t, "n is R", told(a.Alloc(r, 1, false)), answer{c.Base + r, api.OK})
		wants(t, "align is R", told(a.Alloc(1, r, false)), answer{c.Base + 2*r, api.OK})
		wantsUsed(t, a, r+3)
	}
}

// P15.2: an n with which the end of the piece wraps round to below, at and within the top, and an align whose multiple lies far past it, on the lowest and the highest heap.
func TestSumsThatWrap(t *testing.T) {
	for _, base := range []uint64{4096, 1 << 32, 1<<63 - 4096} {
		h := newHeap(t, api.Config{Base: base, Limit: 1, Order: 0})
		a := newArena(t, h, 4096)
		takes(t, a, 100, 1)
		for _, deny := range []bool{false, true} {
			for _, end := range []uint64{0, 1, base - 1, base, base + 99} {
				refuses(t, a, h, end-(base+100), 1, deny, api.ETOOBIG)
			}
			for _, align := range []uint64{8192, 1 << 62, 1 << 63} {
				refuses(t, a, h, 1, align, deny, api.ETOOBIG)
				refuses(t, a, h, most-align+1, align, deny, api.ETOOBIG)
			}
			refuses(t, a, h, 1, 4096, deny, api.ENOMEM)
		}
		takesAt(t, a, 3996, 1, base+100)
	}
}

// P15.2: each n from 0 on: a piece of it lies right behind the one ahead, 0 counting as 1.
func TestOneBehindTheOther(t *testing.T) {
	h := newHeap(t, config(2, 1))
	a := newArena(t, h, 16384)
	at := takes(t, a, 0, 1) + 1
	for n := range uint64(150) {
		takesAt(t, a, n, 1, at)
		at += max(n, 1)
	}
	wantsUsed(t, a, 1+1+149*150/2)
	wantsChunks(t, a, api.Block{P: 1 << 32, Size: 16384})
}

// P15.2: a piece that ends just at the top's end, and one byte more, for each size of a chunk and each rest.
func TestTopsEnd(t *testing.T) {
	for size := uint64(16); size <= 8192; size *= 2 {
		for _, rest := range []uint64{1, 2, 7, 8, size / 2, size - 1} {
			h := newHeap(t, config(1, 4))
			a := newArena(t, h, size)
			p := takes(t, a, size-rest, 1)
			mark := a.Mark()
			takesAt(t, a, rest, 1, p+size-rest)
			wantsChunks(t, a, api.Block{P: p, Size: size})
			releases(t, a, mark)
			q := takes(t, a, rest+1, 1)
			wantsChunks(t, a, api.Block{P: p, Size: size}, api.Block{P: q, Size: size})
			if size-rest-1 > 0 {
				takesAt(t, a, size-rest-1, 1, q+rest+1) // the new one is the top: its first bytes are taken
			}
			wantsUsed(t, a, size-rest+size)
		}
	}
}

// P15.2: all of a chunk's bytes are used, not only those that it was asked for.
func TestWholeChunk(t *testing.T) {
	for _, chunk := range []uint64{1, 9, 16, 17, 33, 100, 1025, 2049, 4097, 5000} {
		h := newHeap(t, config(1, 1))
		a := newArena(t, h, chunk)
		p := takes(t, a, 1, 1)
		size := sizeFor(h.Config(), chunk, 1)
		takesAt(t, a, size-1, 1, p+1)
		wantsChunks(t, a, api.Block{P: p, Size: size})
	}
}

// P15.2: a multiple of align in the top, at its end, and past it.
func TestAlignInTheTop(t *testing.T) {
	for size := uint64(16); size <= 8192; size *= 2 {
		for align := uint64(1); align <= 8192; align *= 2 {
			for _, taken := range []uint64{1, size/2 - 1, size / 2, size/2 + 1, size - 1, size} {
				h := newHeap(t, config(1, 4))
				h.Malloc(size, false) // so that the chunk is no multiple of more than its size
				a := newArena(t, h, size)
				top := takes(t, a, taken, 1)
				p := top + taken
				for p%align != 0 {
					p++
				}
				got := takes(t, a, 1, align)
				if p < top+size && got != p || p >= top+size && (got%align != 0 || len(a.Chunks()) != 2) {
					t.Fatalf("size %d, taken %d, align %d: %d, not %d", size, taken, align, got, p)
				}
				wantsUsed(t, a, taken+1)
			}
		}
	}
}

// P15.2: what lies between a piece and the multiple of align ahead of it is taken, and not used.
func TestGaps(t *testing.T) {
	h := newHeap(t, example())
	a := newArena(t, h, 4096)
	p := takes(t, a, 3, 1)
	takesAt(t, a, 1, 1024, p+1024)
	takesAt(t, a, 1, 2, p+1026)
	takesAt(t, a, 5, 1, p+1027)
	takesAt(t, a, 2048, 2048, p+2048)
	wantsUsed(t, a, 3+1+1+5+2048)
	wantsChunks(t, a, api.Block{P: p, Size: 4096})
}

// P15.2: n above chunk, below it, and just chunk; align above both: the new chunk is for the greatest of them.
func TestSizeOfNewChunk(t *testing.T) {
	for _, chunk := range []uint64{1, 16, 17, 100, 128, 3000, 4096, 8192} {
		for _, n := range []uint64{0, 1, 16, 17, 99, 100, 101, 128, 129, 2999, 3000, 3001, 4096, 4097, 8192} {
			for _, align := range []uint64{1, 16, 64, 256, 4096, 8192} {
				h := newHeap(t, config(1, 2))
				h.Malloc(16, false)
				a := newArena(t, h, chunk)
				p := takes(t, a, n, align)
				wantsChunks(t, a, api.Block{P: p, Size: sizeFor(h.Config(), max(n, chunk), align)})
				wantsUsed(t, a, max(n, 1))
				if p%align != 0 {
					t.Fatalf("%d is no multiple of %d", p, align)
				}
			}
		}
	}
}

// P15.2: denied where the top has room the piece comes; where it has none, a chunk comes if the heap has room for it, else ENOMEM; not denied a region comes.
func TestDenied(t *testing.T) {
	h := newHeap(t, example())
	a := newArena(t, h, 4096)
	refuses(t, a, h, 1, 1, true, api.ENOMEM)
	takes(t, a, 1, 1)
	takesAt(t, a, 4095, 1, 65537)
	takesAt(t, a, 1, 1, 65536+4096)
	takesAt(t, a, 4000, 1, 65536+4097)
	refuses(t, a, h, 96, 1, true, api.ENOMEM)
	refuses(t, a, h, 1, 4096, true, api.ENOMEM)
	takesAt(t, a, 95, 1, 65536+8097)
	if got := h.Stats().H; got != 8192 {
		t.Fatalf("H is %d", got)
	}
	wants(t, "not denied", told(a.Alloc(96, 1, false)), answer{73728, api.OK})
	if got := h.Stats().H; got != 16384 {
		t.Fatalf("H is %d", got)
	}
	takesAt(t, a, 4001, 1, 73728+4096)
	refuses(t, a, h, 96, 1, false, api.ENOMEM)
	takesAt(t, a, 95, 1, 73728+8097)
	wantsUsed(t, a, 16384-4000)
}

// P15.2: what is left of a chunk that is not the top any more is not used, however small the piece.
func TestRestIsLeft(t *testing.T) {
	h := newHeap(t, example())
	a := newArena(t, h, 64)
	first := takes(t, a, 1, 1)
	second := takes(t, a, 64, 1)
	third := takes(t, a, 1, 1)
	wantsChunks(t, a, api.Block{P: first, Size: 64}, api.Block{P: second, Size: 64}, api.Block{P: third, Size: 64})
	takesAt(t, a, 63, 1, third+1)
}

// P15.2, P15.6: ENOMEM of the heap changes nothing, and the arena goes on as if it had not been asked.
func TestFullHeap(t *testing.T) {
	h := newHeap(t, config(0, 1))
	a, b := newArena(t, h, 2048), newArena(t, h, 16)
	p := takes(t, a, 2000, 1)
	takes(t, a, 49, 1)
	mark := a.Mark()
	for _, deny := range []bool{false, true} {
		refuses(t, a, h, 2000, 1, deny, api.ENOMEM)
		refuses(t, a, h, 1, 4096, deny, api.ENOMEM)
		refuses(t, a, h, 4096, 1, deny, api.ENOMEM)
		refuses(t, b, h, 1, 1, deny, api.ENOMEM)
	}
	wantsMark(t, b, 0)
	wantsMark(t, a, mark+1)
	releases(t, a, mark)
	takesAt(t, a, 1999, 1, p+2048+49)
	wantsUsed(t, a, 4048)
}
