package slab_test

import (
	"math"
	"slices"
	"testing"

	"croft/api"
)

// P7.2, P7.6: classes that are none, with no region, with free cells there, and with all full at Limit: nothing comes.
func TestTakeOfNoClass(t *testing.T) {
	b := newBoth(t, api.Config{Base: 65536, Limit: 1})
	wrong := func() {
		t.Helper()
		for _, class := range []int{math.MinInt, -64, -1, 8, 9, 63, 64, 255, math.MaxInt} {
			b.refusedTake(class, false, api.EINVAL)
			b.refusedTake(class, true, api.EINVAL)
		}
	}
	wrong()
	b.takes(7, 1)
	wrong()
	b.takes(7, 1)
	wrong()
}

// P7.2: of each class, all cells of a new page, one behind the other; each free cell's word, First, Live and Bits behind each; with the last one the page is on no list.
func TestTakeOfEachClass(t *testing.T) {
	for class := range 8 {
		b := newBoth(t, api.Config{Base: 65536, Limit: 1, Order: 1})
		b.refusedTake(class, true, api.ENOMEM)
		for i := range countOf(class) {
			p := 65536 + uint64(i)*sizeOf(class)
			b.wantTake(class, i > 0, taken{p, i == 0, api.OK})
			b.wantSize(p, sizeOf(class))
			is := api.Page{Kind: api.PageSlab, Class: class, Live: i + 1, Next: -1, Prev: -1, First: i + 1}
			for cell := range i + 1 {
				is.Bits[cell/64] |= 1 << (cell % 64)
			}
			head := 0
			if i+1 == countOf(class) {
				is.First, head = -1, -1
			}
			b.wantPage(0, is)
			b.wantHead(class, head)
			for q := p + sizeOf(class); q < 69632; q += sizeOf(class) {
				b.wantWord(q, (q+sizeOf(class))%69632)
			}
		}
		b.wantTake(class, true, taken{69632, false, api.OK}) // the region has one more
	}
}

// P7.2: a new page's cells are chained whatever stood there; nothing but the eight bytes at each cell's beginning is written.
func TestTakeOfUsedPage(t *testing.T) {
	for class := range 8 {
		b := newBoth(t, api.Config{Base: 65536, Limit: 1, Order: 1})
		at := b.need(1, false)
		b.fill(at, 8192, 0xab)
		b.back(at)
		b.wantTake(class, true, taken{65536, false, api.OK})
		got, _ := b.p.Space().Read(65536, 4096)
		for i := 16; i < 4096; i++ { // the pool's links stood ahead
			if i%int(sizeOf(class)) >= 8 && got[i] != 0xab {
				t.Fatalf("class %d: the byte %d is %d", class, i, got[i])
			}
		}
	}
}

// P7.2: a page is taken from a region that is there; a region comes only where there is no page, once; denied or at Limit none comes.
func TestTakeGrows(t *testing.T) {
	for class := range 8 {
		for order := range 3 {
			c := api.Config{Base: 1 << 20, Limit: 3, Order: order}
			b := newBoth(t, c)
			for page := range 3 << order {
				first := 1<<20 + 4096*uint64(page)
				grows := page%(1<<order) == 0
				if grows {
					b.refusedTake(class, true, api.ENOMEM)
				}
				b.wantTake(class, !grows, taken{first, grows, api.OK})
				for range countOf(class) - 1 {
					if got := b.take(class, true); got.grew || got.e != api.OK {
						t.Fatalf("a cell of a partial page: %v", got)
					}
				}
			}
			for k := range 8 {
				b.refusedTake(k, false, api.ENOMEM)
				b.refusedTake(k, true, api.ENOMEM)
			}
		}
	}
}

// P7.2: free cells of another class are of no help, and are left alone.
func TestTakeOfAnotherClass(t *testing.T) {
	for class := range 8 {
		for other := range 8 {
			b := newBoth(t, api.Config{Base: 65536, Limit: 2})
			b.takes(class, 1)
			if other == class {
				b.wantTake(other, true, taken{65536 + sizeOf(class), false, api.OK})
				continue
			}
			b.refusedTake(other, true, api.ENOMEM)
			b.wantTake(other, false, taken{69632, true, api.OK})
			b.wantTake(class, true, taken{65536 + sizeOf(class), false, api.OK})
		}
	}
}

// P7.2: the pool's live blocks are no pages for cells; what of them is given back is one again.
func TestTakeBesideBlocks(t *testing.T) {
	b := newBoth(t, api.Config{Base: 65536, Limit: 1, Order: 2})
	two, one := b.need(1, false), b.need(0, false)
	b.wantTake(3, true, taken{77824, false, api.OK})
	b.refusedTake(4, false, api.ENOMEM)
	b.back(one)
	b.wantTake(4, false, taken{one, false, api.OK})
	b.refusedTake(5, false, api.ENOMEM)
	b.back(two)
	b.wantTake(5, false, taken{two, false, api.OK})
	b.wantTake(6, false, taken{two + 4096, false, api.OK})
	b.refusedTake(7, false, api.ENOMEM)
}

// P7.2: the head of the partial list is the page, whichever has more free cells; when it is full, the next one is.
func TestTakeOfHead(t *testing.T) {
	b := newBoth(t, api.Config{Base: 65536, Limit: 3})
	all := b.takes(6, 12) // three full pages of four cells
	b.gives(all[0], all[1], all[9], all[4], all[5], all[6])
	b.wantHead(6, 1)
	b.wantNeighbours(1, 2, -1)
	b.wantNeighbours(2, 0, 1)
	b.wantNeighbours(0, -1, 2)
	for i, want := range []uint64{all[6], all[5], all[4], all[9], all[1], all[0]} {
		b.wantTake(6, i%2 == 0, taken{want, false, api.OK})
		b.wantHead(6, []int{1, 1, 2, 0, 0, -1}[i])
	}
	b.refusedTake(6, false, api.ENOMEM)
}

// P7.5: what a user writes into live cells is not touched, and does not lead astray, addresses and all.
func TestLiveKeeps(t *testing.T) {
	for class := range 8 {
		b := newBoth(t, api.Config{Base: 65536, Limit: 4, Order: 1})
		kept := b.takes(class, 3)
		for i, p := range kept {
			b.fill(p, sizeOf(class), byte(i+1))
		}
		var more []uint64
		for range 2 * countOf(class) {
			more = append(more, b.takes(class, 1)...)
			b.fill(more[len(more)-1], sizeOf(class), 0xff)
		}
		for _, p := range more {
			b.gives(p)
		}
		b.check()
		for i, p := range kept {
			got, _ := b.p.Space().Read(p, sizeOf(class))
			if slices.Min(got) != byte(i+1) || slices.Max(got) != byte(i+1) {
				t.Errorf("class %d: the live cell at %d has changed", class, p)
			}
		}
	}
}
