package buddy_test

import (
	"testing"

	"croft/api"
)

// P5.5: regions come and go one by one, with every order.
func TestFeedAndPull(t *testing.T) {
	for order := range 9 {
		c := api.Config{Base: 1 << 20, Limit: min(64, 1024>>order), Order: order}
		b := newBoth(t, c, 0)
		for range c.Limit {
			b.come()
		}
		b.check()
		if got := b.b.Free(order); len(got) != c.Limit || got[0] != 1<<20+uint64((c.Limit-1)*regionBytes(c)) {
			t.Errorf("order %d: %v", order, got)
		}
		for range c.Limit {
			b.leave()
		}
		b.check()
		b.come()
		b.check()
	}
}

// P5.5: without a region both are refused, though the map may have one.
func TestWithoutRegion(t *testing.T) {
	for order := range 9 {
		b := newBoth(t, api.Config{Base: 1 << 20, Limit: 2, Order: order}, 0)
		b.wantErrors("Feed, Pull of no region", []api.Errno{b.feed(), b.pull()}, api.ESTATE, api.ESTATE)
		b.check()
		b.grow()
		b.wantErrors("Feed, Pull with the map's alone", []api.Errno{b.feed(), b.pull()}, api.ESTATE, api.ESTATE)
		b.check()
	}
}

// P5.5: a map with fewer or more pages than the space's regions have, the top block live or free.
func TestOutOfStep(t *testing.T) {
	for order := range 9 {
		for fed := range 2 {
			b := newBoth(t, api.Config{Base: 1 << 20, Limit: 4, Order: order}, fed)
			b.commit()
			b.wantErrors("Feed, Pull with the space's alone", []api.Errno{b.feed(), b.pull()}, api.ESTATE, api.ESTATE)
			b.check()
			b.grow()
			b.grow()
			b.wantErrors("Feed, Pull with the map's more", []api.Errno{b.feed(), b.pull()}, api.ESTATE, api.ESTATE)
			b.check()
			b.cutMap()
			b.want("Pull of what was not fed in", b.pull(), api.ESTATE)
			b.want("Feed", b.feed(), api.OK)
			b.commit()
			b.wantErrors("Feed, Pull of one fed in, with the space's more", []api.Errno{b.feed(), b.pull()}, api.ESTATE, api.ESTATE)
			b.decommit()
			b.want("Pull", b.pull(), api.OK)
			b.check()
		}
	}
}

// P5.5: a top block that is cut is neither live nor free, though all of it may be live, or nearly all free.
func TestTopBlockCut(t *testing.T) {
	for order := 1; order < 9; order++ {
		b := newBoth(t, api.Config{Base: 1 << 20, Limit: 2, Order: order}, 2)
		b.take(order)
		b.wantErrors("Pull of a live one", []api.Errno{b.pull()}, api.ESTATE)
		b.want("Feed of a live one", b.feed(), api.OK)
		b.want("Feed of a free one", b.feed(), api.ESTATE)
		b.check()
		first, _ := b.take(order - 1)
		b.wantErrors("Feed, Pull of half a one", []api.Errno{b.feed(), b.pull()}, api.ESTATE, api.ESTATE)
		second, _ := b.take(order - 1)
		b.wantErrors("Feed, Pull of two halves", []api.Errno{b.feed(), b.pull()}, api.ESTATE, api.ESTATE)
		b.check()
		b.give(second, order-1)
		b.wantErrors("Feed, Pull of the other half", []api.Errno{b.feed(), b.pull()}, api.ESTATE, api.ESTATE)
		b.check()
		b.give(first, order-1)
		b.want("Pull of it whole", b.pull(), api.OK)
		b.check()
	}
}

// P5.5: Pull takes the top one from wherever it stands on its list, and it alone.
func TestPullFromTheMiddle(t *testing.T) {
	b := newBoth(t, api.Config{Base: 1 << 20, Limit: 3, Order: 1}, 3)
	at := func(region uint64) uint64 { return 1<<20 + 8192*region }
	b.takes(1, 1, 1)
	for _, region := range []uint64{0, 2, 1} {
		b.give(at(region), 1)
	}
	b.wantLists(nil, []uint64{at(1), at(2), at(0)})
	b.leave()
	b.wantLists(nil, []uint64{at(1), at(0)})
	b.take(1)
	b.want("Pull of a live one above a free one", b.pull(), api.ESTATE)
	b.wantLists(nil, []uint64{at(0)})
}

// P5.5: that the page is a free block's is not enough: the block stands on this buddy's list, or is not free.
func TestPullOfWhatStandsElsewhere(t *testing.T) {
	b := newBoth(t, api.Config{Base: 1 << 20, Limit: 3, Order: 1}, 3)
	at := func(region uint64) uint64 { return 1<<20 + 8192*region }
	b.takes(1, 1, 1)
	for _, region := range []uint64{0, 2, 1} {
		b.give(at(region), 1) // the top one stands in the middle
	}
	for _, head := range []uint64{0, at(0)} { // none of the list, and its end
		b.open(0, head)
		b.want("Pull", b.b.Pull(), api.ESTATE)
		b.wantUntouched(0, head)
	}
}

// P5.5: that the block stands on the list is not enough either: its page is a free block's, or it is not free.
func TestPullOfWhatIsLive(t *testing.T) {
	b := newBoth(t, api.Config{Base: 1 << 20, Limit: 3, Order: 1}, 0)
	b.commit()
	b.grow()
	b.open(0, 1<<20)
	b.want("Pull", b.b.Pull(), api.ESTATE)
	b.wantUntouched(0, 1<<20)
}

// P5.5: a region that is pulled is a live block again, and may be fed in again.
func TestPulledIsLive(t *testing.T) {
	b := newBoth(t, example(), 1)
	b.want("Pull", b.pull(), api.OK)
	b.wantPages([2]int{api.PageBig, 2}, [2]int{api.PageBigRest, 2}, [2]int{api.PageBigRest, 2}, [2]int{api.PageBigRest, 2})
	b.wantTaken(b.takes(0), taken{0, api.ENOMEM})
	b.want("Pull twice", b.pull(), api.ESTATE)
	b.mark(65536, 2)
	b.check()
	b.want("Feed", b.feed(), api.OK)
	b.wantLists(nil, nil, []uint64{65536})
}

// P5.3, P5.4: what only the map has is no page: it is no block either.
func TestPageOfTheMapAlone(t *testing.T) {
	b := newBoth(t, example(), 1)
	b.grow()
	b.want("Give", b.give(81920, 2), api.EINVAL)
	b.want("Shrink", b.shrink(81920, 2, 0), api.EINVAL)
	b.check()
	b.commit()
	b.want("Give", b.give(81920, 2), api.OK)
	b.check()
}
