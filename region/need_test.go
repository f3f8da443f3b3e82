package region_test

import (
	"bytes"
	"math"
	"reflect"
	"testing"

	"croft/api"
)

// wrongOrders are no block's, where a region's is that one.
func wrongOrders(order int) []int {
	return []int{math.MinInt, -64, -1, order + 1, order + 2, 9, 63, 64, math.MaxInt}
}

// refused does a call that must be refused, and asks that nothing is changed.
func (b *both) refused(call func() api.Errno, want api.Errno) {
	b.t.Helper()
	ahead := tell(b.p, b.w.c)
	b.want("a call that is refused", call(), want)
	if !reflect.DeepEqual(tell(b.p, b.w.c), ahead) {
		b.t.Fatalf("a call that is refused with %v has changed something", want)
	}
	b.check()
}

func (b *both) refusedNeed(order int, deny bool, want api.Errno) {
	b.t.Helper()
	b.refused(func() api.Errno {
		got := ask(b.p, order, deny)
		if got.at != 0 || got.grew {
			b.t.Errorf("Need(%d, %v): %v", order, deny, got)
		}
		return got.e
	}, want)
}

// P6.3, P6.7: orders that are none, with no region, with blocks free, and with all live at Limit: no region comes.
func TestNeedOfNoOrder(t *testing.T) {
	for order := range 9 {
		b := newBoth(t, api.Config{Base: 1 << 20, Limit: 2, Order: order})
		wrong := func() {
			t.Helper()
			for _, none := range wrongOrders(order) {
				b.refusedNeed(none, false, api.EINVAL)
				b.refusedNeed(none, true, api.EINVAL)
			}
		}
		wrong()
		b.needs(0)
		wrong()
		b.needs(order)
		wrong()
	}
}

// P6.3: of every order, the first block of a new pool, and what is left of its region then.
func TestNeedOfEachOrder(t *testing.T) {
	for greatest := range 9 {
		for order := range greatest + 1 {
			b := newBoth(t, api.Config{Base: 1 << 20, Limit: 1, Order: greatest})
			b.refusedNeed(order, true, api.ENOMEM)
			b.wantNeed(order, false, needed{1 << 20, true, api.OK})
			for k := order; k < greatest; k++ {
				if got := b.p.Buddy().Free(k); len(got) != 1 || got[0] != 1<<20+4096*uint64(power(k)) {
					t.Errorf("order %d of %d: Free(%d): %v", order, greatest, k, got)
				}
			}
			b.refusedNeed(greatest, false, api.ENOMEM)
		}
	}
}

// P6.3: a region comes only where no block is found without one, and just one comes.
func TestNeedGrows(t *testing.T) {
	for order := range 9 {
		c := api.Config{Base: 1 << 20, Limit: min(64, 1024>>order), Order: order}
		b := newBoth(t, c)
		for i := range c.Limit {
			b.refusedNeed(order, true, api.ENOMEM)
			first := c.Base + uint64(i*regionBytes(c))
			b.wantNeed(order, false, needed{first, true, api.OK})
			if i%2 == 0 { // what is free already is taken, denied or not
				b.wantGive(first, order, api.OK)
				b.wantNeed(order, i%4 == 0, needed{first, false, api.OK})
			}
		}
		for k := range order + 1 {
			b.refusedNeed(k, false, api.ENOMEM)
			b.refusedNeed(k, true, api.ENOMEM)
		}
	}
}

// P6.3: blocks that are free, but lesser or not at one place, are none; with a greater one free no region comes.
func TestNeedWithOthersFree(t *testing.T) {
	b := newBoth(t, api.Config{Base: 1 << 20, Limit: 2, Order: 2})
	at := func(page uint64) uint64 { return 1<<20 + 4096*page }
	b.needs(0, 0, 0, 0)
	b.wantGive(at(1), 0, api.OK)
	b.wantGive(at(2), 0, api.OK)
	b.refusedNeed(1, true, api.ENOMEM)
	b.wantNeed(1, false, needed{at(4), true, api.OK})
	b.wantNeed(0, false, needed{at(2), false, api.OK})
	b.wantNeed(0, false, needed{at(1), false, api.OK})
	b.wantNeed(0, false, needed{at(6), false, api.OK})
	b.refusedNeed(1, false, api.ENOMEM)
	b.wantNeed(0, true, needed{at(7), false, api.OK})
	b.refusedNeed(0, false, api.ENOMEM)
}

// P6.4, P6.7: what is no live block of that order is refused, and nothing is changed.
func TestGiveOfNoBlock(t *testing.T) {
	b := newBoth(t, api.Config{Base: 65536, Limit: 3, Order: 2})
	b.needs(0, 1, 2)
	b.wantGive(81920, 2, api.OK) // 65536 live, 69632 free, 73728 live with two pages, 81920 free with four
	wrong := []struct {
		at    uint64
		order int
	}{
		{0, 0}, {1, 0}, {4096, 0}, {61440, 0}, {65535, 0}, {65537, 0}, {65552, 0}, {73729, 1},
		{77824, 0}, {77824, 1}, {69632, 1}, {69632, 0}, {81920, 2}, {81920, 0}, {86016, 0}, {90112, 1},
		{65536, 1}, {65536, 2}, {73728, 0}, {73728, 2}, {65536, -1}, {65536, 3}, {65536, 64}, {65536, math.MinInt}, {65536, math.MaxInt},
		{98304, 0}, {98304, 2}, {1 << 20, 0}, {1 << 63, 0}, {1<<63 + 65536, 0}, {math.MaxUint64, 0}, {math.MaxUint64 - 4095, 0},
	}
	for _, w := range wrong {
		b.refused(func() api.Errno { return b.p.Give(w.at, w.order) }, api.EINVAL)
	}
	b.wantGive(65536, 0, api.OK)
	b.refused(func() api.Errno { return b.p.Give(65536, 0) }, api.EINVAL)
}

// P6.4: of a pool without a region nothing is live.
func TestGiveWithoutRegion(t *testing.T) {
	for order := range 9 {
		b := newBoth(t, api.Config{Base: 1 << 20, Limit: 1, Order: order})
		b.refused(func() api.Errno { return b.p.Give(1<<20, order) }, api.EINVAL)
		b.refused(func() api.Errno { return b.p.Give(1<<20, 0) }, api.EINVAL)
		b.needs(order)
		b.wantGive(1<<20, order, api.OK)
		b.wantTrim(1)
		b.refused(func() api.Errno { return b.p.Give(1<<20, order) }, api.EINVAL)
	}
}

// P6.5: without a region, with one that is live in part, and with one that is free.
func TestTrimOfOne(t *testing.T) {
	for order := range 9 {
		c := api.Config{Base: 1 << 20, Limit: 2, Order: order}
		b := newBoth(t, c)
		b.wantTrim(0)
		for range power(order) {
			b.needs(0)
			if got := b.trim(); got != 0 {
				t.Errorf("order %d: Trim of a region live in part: %d", order, got)
			}
		}
		b.check()
		for page := power(order) - 1; page > 0; page-- {
			b.want("Give", b.give(b.w.address(page), 0), api.OK)
			if got := b.trim(); got != 0 {
				t.Errorf("order %d: Trim of a region with a live page: %d", order, got)
			}
		}
		b.wantGive(c.Base, 0, api.OK)
		b.wantTrim(1)
		b.wantTrim(0)
	}
}

// P6.5: several wholly free regions at the top, whatever the order in which they were given back; one below a live one stays.
func TestTrimOfSeveral(t *testing.T) {
	at := func(region uint64) uint64 { return 1<<20 + 8192*region }
	for _, order := range [][]uint64{{2, 3, 4}, {4, 3, 2}, {3, 4, 2}, {2, 4, 3}} {
		b := newBoth(t, api.Config{Base: 1 << 20, Limit: 5, Order: 1})
		b.needs(1, 1, 1, 1, 1)
		b.wantGive(at(0), 1, api.OK)
		b.wantTrim(0)
		for _, region := range order[:2] {
			b.wantGive(at(region), 1, api.OK)
		}
		last := order[2]
		b.wantTrim(int(4 - last)) // those above the one that is live yet
		b.wantGive(at(last), 1, api.OK)
		b.wantTrim(int(last - 1))
		if got := b.p.Space().Regions(); got != 2 {
			t.Errorf("%d regions, not 2", got)
		}
		b.wantGive(at(1), 1, api.OK)
		b.wantTrim(2)
		b.wantTrim(0)
	}
}

// P6.5: a region live in part stops it, and one whose two halves are live.
func TestTrimBelowLive(t *testing.T) {
	b := newBoth(t, api.Config{Base: 1 << 20, Limit: 4, Order: 1})
	at := func(page uint64) uint64 { return 1<<20 + 4096*page }
	b.needs(1, 0, 0, 1, 1)
	b.wantGive(at(0), 1, api.OK)
	b.wantGive(at(3), 0, api.OK)
	b.wantTrim(0)
	b.wantGive(at(4), 1, api.OK)
	b.wantTrim(0)
	b.wantGive(at(6), 1, api.OK)
	b.wantTrim(2)
	b.wantGive(at(2), 0, api.OK)
	b.wantTrim(2)
}

// P6.3, P6.5: a region that has gone comes again as if it were new.
func TestComesAgain(t *testing.T) {
	for order := range 9 {
		c := api.Config{Base: 1 << 20, Limit: 2, Order: order}
		b := newBoth(t, c)
		b.needs(order, 0)
		b.give(b.w.address(power(order)), 0)
		b.give(c.Base, order)
		b.wantTrim(2)
		p := newPool(t, c)
		for i := range uint64(2) {
			want := needed{c.Base + i*uint64(regionBytes(c)), true, api.OK}
			if got := ask(b.p, order, false); got != want || ask(p, order, false) != want {
				t.Errorf("order %d: %v, not %v", order, got, want)
			}
		}
		if again, first := tell(b.p, c), tell(p, c); !reflect.DeepEqual(again, first) || !bytes.Equal(again.bytes, make([]byte, 2*regionBytes(c))) {
			t.Errorf("order %d: what comes again is not as what comes first", order)
		}
	}
}

// Words: what the buddy is asked past the pool is the pool's too: a live block is live, whoever asked for it.
func TestBuddyAsked(t *testing.T) {
	b := newBoth(t, api.Config{Base: 65536, Limit: 2, Order: 2})
	b.needs(2)
	b.want("Shrink", b.p.Buddy().Shrink(65536, 2, 0), api.OK)
	for _, want := range []needed{{69632, false, api.OK}, {73728, false, api.OK}} {
		if got := ask(b.p, 0, true); got != want {
			t.Errorf("Need(0): %v, not %v", got, want)
		}
	}
	if at, e := b.p.Buddy().Take(0); at != 77824 || e != api.OK {
		t.Errorf("Take(0): %d, %v", at, e)
	}
	if got, want := ask(b.p, 0, false), (needed{81920, true, api.OK}); got != want {
		t.Errorf("Need(0): %v, not %v", got, want)
	}
	b.want("Give", b.p.Buddy().Give(81920, 0), api.OK)
	if got := b.p.Trim(); got != 1 {
		t.Errorf("Trim: %d", got)
	}
	b.want("Give", b.p.Give(77824, 0), api.OK)
	if got := b.p.Trim(); got != 0 {
		t.Errorf("Trim: %d", got)
	}
}

// Words: pages of live blocks that are slabs, and blocks again, are live all the while; a slab is no block of whole pages.
func TestSlabs(t *testing.T) {
	b := newBoth(t, example())
	b.needs(0)
	b.want("Slab", b.p.Map().Slab(0, 3), api.OK)
	b.want("Own", b.p.Map().Own(0, 5, true), api.OK)
	b.want("Give of a slab", b.p.Give(65536, 0), api.EINVAL)
	if got := b.p.Trim(); got != 0 {
		t.Errorf("Trim with a slab: %d", got)
	}
	if got, want := ask(b.p, 1, true), (needed{0, false, api.ENOMEM}); got != want {
		t.Errorf("Need(1): %v", got)
	}
	b.checkHeld()
	b.want("Run", b.p.Map().Run(0, 0, api.PageBig), api.OK)
	b.wantGive(65536, 0, api.OK)
	b.wantTrim(1)
}
