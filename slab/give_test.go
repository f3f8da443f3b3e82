package slab_test

import (
	"math"
	"slices"
	"testing"

	"croft/api"
)

// P7.3: the last live cell of a page that is the head of its partial list, in the middle, and at its end; and of one that is alone on it.
func TestGiveOfLast(t *testing.T) {
	for class := range 8 {
		for page := range 3 {
			b := newBoth(t, api.Config{Base: 65536, Limit: 1, Order: 2})
			b.threePartial(class)
			b.wantHead(class, 2)
			b.wantGive(65536+4096*uint64(page), api.OK)
			b.wantPage(page, api.Page{Kind: api.PageFree, Order: []int{0, 0, 1}[page], Next: -1, Prev: -1, First: -1})
			want := slices.DeleteFunc([]int{2, 1, 0}, func(p int) bool { return p == page })
			b.wantHead(class, want[0])
			b.wantNeighbours(want[0], want[1], -1)
			b.wantNeighbours(want[1], -1, want[0])
			b.wantGive(65536+4096*uint64(want[1]), api.OK)
			b.wantHead(class, want[0])
			b.wantNeighbours(want[0], -1, -1)
			b.wantGive(65536+4096*uint64(want[0]), api.OK)
			b.wantHead(class, -1)
			if free := b.p.Buddy().Free(2); len(free) != 1 || free[0] != 65536 {
				t.Errorf("class %d: not all is one free block again: %v", class, free)
			}
		}
	}
}

// threePartial makes pages 0 to 2 slab pages of which the first cell is live and no other; the list is 2, 1, 0.
func (b *both) threePartial(class int) {
	b.t.Helper()
	all := b.takes(class, 3*countOf(class))
	for page := range 3 {
		b.gives(all[page*countOf(class)+1 : (page+1)*countOf(class)]...)
	}
	b.check()
}

func (b *both) wantNeighbours(page, next, prev int) {
	b.t.Helper()
	if is, _ := b.p.Map().At(page); is.Next != next || is.Prev != prev {
		b.t.Errorf("page %d: Next %d, Prev %d; not %d, %d", page, is.Next, is.Prev, next, prev)
	}
}

// P7.2, P7.3: a page that comes to be full in the middle of its list can't be: Take fills the head; but one that is given a cell again comes ahead of all others.
func TestGiveOfFull(t *testing.T) {
	for class := range 8 {
		n := countOf(class)
		b := newBoth(t, api.Config{Base: 65536, Limit: 3})
		all := b.takes(class, 3*n)
		b.wantHead(class, -1)
		for i, page := range []int{1, 0, 2} {
			cell := (i * 5) % n
			p := all[page*n+cell]
			b.wantGive(p, api.OK)
			is, _ := b.p.Map().At(page)
			if is.Live != n-1 || is.First != cell || is.Prev != -1 || is.Next != []int{-1, 1, 0}[i] || is.Bits[cell/64]>>(cell%64)&1 != 0 {
				t.Errorf("class %d: page %d: %+v", class, page, is)
			}
			b.wantWord(p, 0)
			b.wantHead(class, page)
			if i > 0 {
				b.wantNeighbours(is.Next, []int{0, -1, 1}[i], page)
			}
		}
		b.wantTake(class, true, taken{all[2*n+10%n], false, api.OK})
		b.wantHead(class, 0)
		b.wantNeighbours(0, 1, -1)
		b.wantNeighbours(2, -1, -1)
	}
}

// P7.3: a cell heads its page's list: the word in it is the address of what was First; the last one given is the first one taken.
func TestGiveHeadsList(t *testing.T) {
	for class := range 7 { // of the greatest class the second cell is the last
		b := newBoth(t, api.Config{Base: 65536, Limit: 1})
		all := b.takes(class, countOf(class))
		order := []uint64{all[2], all[0], all[len(all)-1]}
		before := uint64(0)
		for i, p := range order {
			b.fill(p, sizeOf(class), 0x77)
			b.wantGive(p, api.OK)
			b.wantWord(p, before)
			is, _ := b.p.Map().At(0)
			if is.First != int((p-65536)/sizeOf(class)) || is.Live != len(all)-i-1 {
				t.Errorf("class %d: behind Give(%d): %+v", class, p, is)
			}
			if got, _ := b.p.Space().Byte(p + 8); got != 0x77 {
				t.Errorf("class %d: more than a word was written", class)
			}
			before = p
		}
		for _, p := range []uint64{order[2], order[1], order[0]} {
			b.wantTake(class, true, taken{p, false, api.OK})
		}
		b.refusedTake(class, false, api.ENOMEM)
	}
}

// P7.3, P7.4, P7.6: of what is no live cell's address Give is refused and Size is 0.
func TestGiveOfNoCell(t *testing.T) {
	for class := range 8 {
		b := newBoth(t, api.Config{Base: 65536, Limit: 3, Order: 2})
		b.takes(class, 2)
		two := b.need(1, false)
		b.need(2, false)
		b.need(2, false)
		b.back(98304) // page 0: cells; 1 free; 2 and 3 a block, 4 to 7 one; 8 to 11 free
		size := sizeOf(class)
		inside := []uint64{65537, 65536 + 8, 65536 + size - 1, 65536 + size/2, 65536 + size + 1, 65536 + size + 8, 65536 + size + size/2}
		free := []uint64{65536 + 2*size, 69632 - size, 69632 - 1}
		blocks := []uint64{69632, 69632 + size, two, two + size, two + 4096, 81920, 81920 + 2048, 86016, 94208, 98304, 98304 + size, 102400}
		outside := []uint64{0, 1, size, 4096, 61440, 65536 - size, 65535, 114688, 114688 + size, 1 << 20, 1 << 63, 1<<63 + 65536, math.MaxUint64, math.MaxUint64 - 15, math.MaxUint64 - 4095}
		for _, p := range slices.Concat(inside, blocks, outside) {
			b.refusedGive(p)
		}
		for _, p := range free {
			if class < 7 || p != 69632-size { // of the greatest class both are live
				b.refusedGive(p)
			}
		}
		b.wantSize(65536, size)
		b.wantSize(65536+size, size)
		b.wantGive(65536+size, api.OK)
		b.refusedGive(65536 + size)
		b.wantGive(65536, api.OK)
		b.refusedGive(65536)
		b.refusedGive(65536 + size)
	}
}

// P7.3, P7.4: of a slab without a region, and behind a region that is gone, no cell is live.
func TestGiveWithoutRegion(t *testing.T) {
	for class := range 8 {
		b := newBoth(t, api.Config{Base: 65536, Limit: 1})
		b.refusedGive(65536)
		b.refusedGive(0)
		b.gives(b.takes(class, 1)...)
		if got := b.trim(); got != 1 {
			t.Errorf("Trim: %d", got)
		}
		b.refusedGive(65536)
	}
}

// P7.5: every address of a region, of one class after the other: Size tells just the live cells.
func TestSizeOfEvery(t *testing.T) {
	b := newBoth(t, api.Config{Base: 1 << 20, Limit: 1, Order: 3})
	for class := range 8 {
		all := b.takes(class, min(countOf(class), 7))
		b.gives(all[len(all)/2])
	}
	b.check()
	want := map[uint64]uint64{}
	for _, p := range b.w.live() {
		want[p] = b.w.size(p)
	}
	for p := uint64(1<<20 - 5000); p < 1<<20+9*4096; p++ {
		if got := b.s.Size(p); got != want[p] {
			t.Fatalf("Size(%d): %d, not %d", p, got, want[p])
		}
	}
	b.check()
}

// P7.3, P7.5: when all is given back, in whatever order, no slab page is left, and all regions go.
func TestAllGivenBack(t *testing.T) {
	for seed := range 12 {
		row := numbers(seed)
		b := newBoth(t, api.Config{Base: 1 << 20, Limit: 6, Order: seed % 3})
		for range 300 {
			b.take(row.below(8), false)
		}
		b.check()
		for live := b.w.live(); len(live) > 0; live = b.w.live() {
			b.gives(live[row.below(len(live))])
		}
		b.check()
		b.wantHead(0, -1)
		pages, _ := b.p.Map().Plain()
		for number, page := range pages {
			if page.Kind != api.PageFree && page.Kind != api.PageFreeRest {
				t.Errorf("seed %d: page %d: %+v", seed, number, page)
			}
		}
		if regions := b.p.Space().Regions(); b.trim() != regions || b.p.Space().Regions() != 0 {
			t.Errorf("seed %d: regions are left", seed)
		}
		b.check()
	}
}

// P7.5: a slab page is no live block of the pool's, and its region does not go.
func TestPoolBesideCells(t *testing.T) {
	b := newBoth(t, api.Config{Base: 65536, Limit: 2, Order: 1})
	b.takes(2, 1)
	for order := range 2 {
		b.refused(func() api.Errno { return b.p.Give(65536, order) }, api.EINVAL)
	}
	if got := b.trim(); got != 0 {
		t.Errorf("Trim: %d", got)
	}
	b.check()
}
