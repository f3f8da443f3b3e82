package buddy_test

import (
	"math"
	"testing"

	"croft/api"
	"croft/buddy"
	"croft/pagemap"
)

// P5.2: a block comes out of the least greater one, cut in halves: each upper half is free then, its pair's bit true.
func TestTakeCuts(t *testing.T) {
	for greatest := range 9 {
		for order := range greatest + 1 {
			b := newBoth(t, api.Config{Base: 1 << 20, Limit: 2, Order: greatest}, 1)
			b.wantTaken(b.takes(order), taken{1 << 20, api.OK})
			b.check()
			for k := range greatest {
				want := []uint64{1<<20 + 4096*uint64(power(k))}
				if k < order {
					want = nil
				}
				if got := b.b.Free(k); len(got) != len(want) || len(want) == 1 && got[0] != want[0] {
					t.Errorf("Take(%d) of %d: Free(%d): %v, not %v", order, greatest, k, got, want)
				}
				if got := b.m.Pair(k, 0); got != (k >= order) {
					t.Errorf("Take(%d) of %d: the bit of order %d: %v", order, greatest, k, got)
				}
			}
		}
	}
}

// P5.2: pages and pairs behind a Take, written out.
func TestTakePages(t *testing.T) {
	b := newBoth(t, api.Config{Base: 1 << 20, Limit: 2, Order: 3}, 1)
	b.wantPages([2]int{api.PageFree, 3}, [2]int{api.PageFreeRest, 3}, [2]int{api.PageFreeRest, 3})
	b.take(1)
	big, bigRest, free, freeRest := api.PageBig, api.PageBigRest, api.PageFree, api.PageFreeRest
	b.wantPages([2]int{big, 1}, [2]int{bigRest, 1}, [2]int{free, 1}, [2]int{freeRest, 1},
		[2]int{free, 2}, [2]int{freeRest, 2}, [2]int{freeRest, 2}, [2]int{freeRest, 2})
	b.wantPairs(0, false, false, false, false)
	b.wantPairs(1, true, false)
	b.wantPairs(2, true)
	b.take(1)
	b.wantPairs(1, false, false)
	b.wantPairs(2, true)
	b.take(0)
	b.wantPages([2]int{big, 1}, [2]int{bigRest, 1}, [2]int{big, 1}, [2]int{bigRest, 1},
		[2]int{big, 0}, [2]int{free, 0}, [2]int{free, 1}, [2]int{freeRest, 1})
	b.wantPairs(0, false, false, true, false)
	b.wantPairs(1, false, true)
	b.wantPairs(2, false)
	b.check()
}

// P5.2: a block of the very order is taken ahead of a greater one; of one order the first on the list.
func TestTakeChoosesTheLeast(t *testing.T) {
	b := newBoth(t, example(), 2) // 65536 and 81920
	b.wantTaken(b.takes(0), taken{81920, api.OK})
	b.wantLists([]uint64{86016}, []uint64{90112}, []uint64{65536})
	b.wantTaken(b.takes(1), taken{90112, api.OK})
	b.wantTaken(b.takes(1), taken{65536, api.OK})
	b.wantLists([]uint64{86016}, []uint64{73728}, nil)
	b.wantTaken(b.takes(0, 0), taken{86016, api.OK}, taken{73728, api.OK})
	b.wantLists([]uint64{77824}, nil, nil)
}

// P5.2: orders that are none, whatever is free.
func TestTakeOfNoOrder(t *testing.T) {
	for order := range 9 {
		for regions := range 3 {
			b := newBoth(t, api.Config{Base: 1 << 20, Limit: 2, Order: order}, regions)
			for _, none := range []int{math.MinInt, -64, -1, order + 1, order + 2, 64, math.MaxInt} {
				b.wantTaken(b.takes(none), taken{0, api.EINVAL})
			}
			b.check()
		}
	}
}

// P5.2: with nothing free, and with only smaller blocks free.
func TestTakeFindsNothing(t *testing.T) {
	for order := range 9 {
		b := newBoth(t, api.Config{Base: 1 << 20, Limit: 2, Order: order}, 0)
		for k := range order + 1 {
			b.wantTaken(b.takes(k), taken{0, api.ENOMEM})
		}
		b.come()
		b.take(0)
		b.wantTaken(b.takes(order), taken{0, api.ENOMEM})
		b.check()
		for k := order - 1; k >= 0; k-- { // 2^k pages are free in one block, and no more
			b.wantTaken(b.takes(k+1), taken{0, api.ENOMEM})
			b.wantTaken(b.takes(k), taken{1<<20 + 4096*uint64(power(k)), api.OK})
		}
		for k := range order + 1 {
			b.wantTaken(b.takes(k), taken{0, api.ENOMEM})
		}
		b.check()
	}
}

// P5.3: joins go up no order, one, and so on, to all.
func TestGiveJoins(t *testing.T) {
	for greatest := range 9 {
		for up := range greatest + 1 {
			b := newBoth(t, api.Config{Base: 1 << 20, Limit: 2, Order: greatest}, 1)
			first, _ := b.take(0)
			if up < greatest {
				b.take(up) // the upper half of order up is live: so no join goes past it
			}
			b.want("Give", b.give(first, 0), api.OK)
			b.check()
			if got := b.b.Free(up); len(got) != 1 || got[0] != 1<<20 {
				t.Errorf("order %d: joined up to %d: %v", greatest, up, got)
			}
			if got, _ := b.m.At(0); got.Kind != api.PageFree || got.Order != up {
				t.Errorf("order %d: joined up to %d: page 0 is %v", greatest, up, got)
			}
			if up < greatest && !b.m.Pair(up, 0) {
				t.Errorf("order %d: joined up to %d: the bit is false", greatest, up)
			}
		}
	}
}

// P5.3: the half that is given back may be the upper one; what is joined begins at the lower one.
func TestGiveTheUpperHalf(t *testing.T) {
	b := newBoth(t, example(), 1)
	b.takes(0, 0, 1)
	b.wantErrors("Give", []api.Errno{b.give(65536, 0), b.give(69632, 0)}, api.OK, api.OK)
	b.wantLists(nil, []uint64{65536}, nil)
	b.wantPairs(0, false, false)
	b.wantPairs(1, true)
	b.wantPages([2]int{api.PageFree, 1}, [2]int{api.PageFreeRest, 1}, [2]int{api.PageBig, 1}, [2]int{api.PageBigRest, 1})
	b.want("Give", b.give(73728, 1), api.OK)
	b.wantLists(nil, nil, []uint64{65536})
	b.wantPairs(1, false)
}

// P5.3: an other half is taken off from the middle of its list, too, and what is given back comes first.
func TestGiveInTheMiddle(t *testing.T) {
	b := newBoth(t, api.Config{Base: 1 << 20, Limit: 1, Order: 3}, 1)
	b.takes(0, 0, 0, 0, 0, 0, 0, 0)
	at := func(page uint64) uint64 { return 1<<20 + 4096*page }
	for _, page := range []uint64{0, 2, 4, 6} {
		b.give(at(page), 0)
	}
	b.wantLists([]uint64{at(6), at(4), at(2), at(0)}, nil, nil, nil)
	b.give(at(3), 0)
	b.wantLists([]uint64{at(6), at(4), at(0)}, []uint64{at(2)}, nil, nil)
	b.give(at(7), 0)
	b.wantLists([]uint64{at(4), at(0)}, []uint64{at(6), at(2)}, nil, nil)
	b.give(at(1), 0)
	b.wantLists([]uint64{at(4)}, []uint64{at(6)}, []uint64{at(0)}, nil)
	b.give(at(5), 0)
	b.wantLists(nil, nil, nil, []uint64{at(0)})
}

// P5.3: blocks of the greatest order have no other half, whoever their neighbours are.
func TestGiveWholeRegions(t *testing.T) {
	b := newBoth(t, api.Config{Base: 1 << 20, Limit: 4, Order: 1}, 4)
	b.takes(1, 1, 1, 1)
	at := func(region uint64) uint64 { return 1<<20 + 8192*region }
	for _, region := range []uint64{1, 0, 2, 3} {
		b.give(at(region), 1)
	}
	b.wantLists(nil, []uint64{at(3), at(2), at(0), at(1)})
	b.wantPairs(0, false, false, false, false)
}

// place is where a block of an order may be.
type place struct {
	p     uint64
	order int
}

// wrongPlaces are no live block's, where 65536 is live, 69632 free, 73728 live with two pages, and the second region free.
func wrongPlaces() []place {
	return []place{
		{0, 0}, {1, 0}, {4096, 0}, {61440, 0}, {65535, 0}, // ahead of Base
		{65537, 0}, {65536 + 16, 0}, {65536 + 4095, 0}, {73729, 1}, // no page's
		{77824, 0}, {77824, 1}, {69632, 1}, // inside a block, of no order's
		{69632, 0}, {81920, 2}, // free ones
		{65536, 1}, {65536, 2}, {73728, 0}, {73728, 2}, {81920, 0}, {81920, 1}, // of another order
		{65536, -1}, {65536, 3}, {65536, math.MaxInt}, {65536, math.MinInt}, {65536, 64}, {65536, -64},
		{86016, 0}, {90112, 1}, {98304, 0}, {98304, 2}, {1 << 20, 0}, // the free one's inside, and past the end
		{math.MaxUint64, 0}, {math.MaxUint64 - 4095, 0}, {1 << 63, 0}, {1<<63 + 65536, 0}, {1<<52 + 65536, 0},
	}
}

// P5.3, P5.4, P5.8: what is no live block of that order is refused, and nothing is changed.
func TestWrongPlaces(t *testing.T) {
	b := newBoth(t, example(), 0)
	b.come()
	b.takes(0, 1)
	b.come()
	b.mark(65536, 0)
	b.mark(73728, 1)
	b.wantLists([]uint64{69632}, nil, []uint64{81920})
	for _, wrong := range wrongPlaces() {
		p, order := wrong.p, wrong.order
		if got := b.give(p, order); got != api.EINVAL {
			t.Errorf("Give(%d, %d): %v", p, order, got)
		}
		for _, to := range []int{math.MinInt, -1, 0, order, order - 1, order + 1, math.MaxInt} {
			if got := b.shrink(p, order, to); got != api.EINVAL {
				t.Errorf("Shrink(%d, %d, %d): %v", p, order, to, got)
			}
		}
		b.check()
	}
	b.wantLists([]uint64{69632}, nil, []uint64{81920})
}

// P5.3, P5.4: a page of a slab starts no live block of whole pages.
func TestOtherPages(t *testing.T) {
	b := newBoth(t, example(), 1)
	b.takes(0, 0, 0, 0)
	b.m.Slab(1, 3)
	for order := range 3 {
		b.want("Give of a slab page", b.b.Give(69632, order), api.EINVAL)
		b.want("Shrink of a slab page", b.b.Shrink(69632, order, 0), api.EINVAL)
	}
	if got, _ := b.m.At(1); got.Kind != api.PageSlab || got.Class != 3 {
		t.Errorf("the slab page: %v", got)
	}
	b.m.Run(1, 0, api.PageBig)
	b.want("Give of a page that was a slab", b.give(69632, 0), api.OK)
	b.check()
}

// Words: a block of two pages begins at an even page, whatever a page says of itself.
func TestBlockAtNoPlace(t *testing.T) {
	b := newBoth(t, example(), 1)
	b.takes(0, 0, 0, 0)
	pages, pairs := b.m.Plain()
	pages[1].Order = 1
	odd, e := pagemap.Open(2, pages, pairs)
	b.want("Open", e, api.OK)
	over := buddy.New(b.w.c, b.s, odd)
	b.want("Give", over.Give(69632, 1), api.EINVAL)
	b.want("Shrink", over.Shrink(69632, 1, 0), api.EINVAL)
	b.want("Give of another", over.Give(73728, 0), api.OK)
}

// P5.4: what a Shrink gives up, for every order and every lesser one.
func TestShrink(t *testing.T) {
	for greatest := range 9 {
		for from := range greatest + 1 {
			for to := range from + 1 {
				b := newBoth(t, api.Config{Base: 1 << 20, Limit: 1, Order: greatest}, 1)
				b.take(from)
				b.mark(1<<20, from)
				b.want("Shrink", b.shrink(1<<20, from, to), api.OK)
				b.check()
				if got, _ := b.m.At(0); got.Kind != api.PageBig || got.Order != to {
					t.Errorf("Shrink from %d to %d: page 0 is %v", from, to, got)
				}
				b.want("Give", b.give(1<<20, to), api.OK)
				b.check()
				if got := b.b.Free(greatest); len(got) != 1 {
					t.Errorf("Shrink from %d to %d, Give: %v", from, to, got)
				}
			}
		}
	}
}

// P5.4: to below 0, to above from, to equal to from.
func TestShrinkTo(t *testing.T) {
	b := newBoth(t, api.Config{Base: 1 << 20, Limit: 1, Order: 3}, 1)
	b.take(2)
	b.mark(1<<20, 2)
	for _, to := range []int{math.MinInt, -64, -1, 3, 4, 64, math.MaxInt} {
		b.want("Shrink", b.shrink(1<<20, 2, to), api.EINVAL)
		b.check()
	}
	b.want("Shrink to its own order", b.shrink(1<<20, 2, 2), api.OK)
	b.wantLists(nil, nil, []uint64{1<<20 + 4*4096}, nil)
	b.want("Shrink to 0", b.shrink(1<<20, 2, 0), api.OK)
	b.wantLists([]uint64{1<<20 + 4096}, []uint64{1<<20 + 2*4096}, []uint64{1<<20 + 4*4096}, nil)
	b.wantPairs(0, true, false, false, false)
	b.wantPairs(1, true, false)
	b.wantPairs(2, true)
}

// P5.4: an upper half comes ahead of what is free already.
func TestShrinkOntoLists(t *testing.T) {
	b := newBoth(t, example(), 1)
	b.takes(0, 1)
	b.wantLists([]uint64{69632}, nil, nil)
	b.want("Shrink", b.shrink(73728, 1, 0), api.OK)
	b.wantLists([]uint64{77824, 69632}, nil, nil)
	b.wantPairs(0, true, true)
	b.wantPairs(1, false)
}
