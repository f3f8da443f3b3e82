package buddy_test

import (
	"math"
	"slices"
	"testing"

	"croft/api"
	"croft/buddy"
	"croft/pagemap"
)

// P5.1, P5.6: of a new buddy all lists are empty, whatever its order is, and whatever stands in space and map.
func TestNew(t *testing.T) {
	for order := range 9 {
		b := newBoth(t, api.Config{Base: 1 << 20, Limit: 2, Order: order}, 0)
		b.check()
		if got := b.b.Heads(); !slices.Equal(got, make([]uint64, order+1)) {
			t.Errorf("order %d: Heads: %v", order, got)
		}
	}
	used := newBoth(t, example(), 2)
	used.take(0)
	again := buddy.New(example(), used.s, used.m)
	if got := again.Heads(); !slices.Equal(got, []uint64{0, 0, 0}) {
		t.Errorf("Heads of a new one over a map in use: %v", got)
	}
	if p, e := again.Take(0); p != 0 || e != api.ENOMEM {
		t.Errorf("Take(0) of it: %d, %v", p, e)
	}
	used.check()
}

// P5.1: heads that are too few or too many.
func TestOpenRefused(t *testing.T) {
	for order := range 9 {
		b := newBoth(t, api.Config{Base: 1 << 20, Limit: 2, Order: order}, 1)
		for n := range 20 {
			got, e := buddy.Open(b.w.c, b.s, b.m, make([]uint64, n))
			if n == order+1 {
				if got == nil || e != api.OK {
					t.Errorf("order %d: Open with %d heads: %v", order, n, e)
				}
			} else if got != nil || e != api.EFORM {
				t.Errorf("order %d: Open with %d heads: %v, %v", order, n, got, e)
			}
		}
		if got, e := buddy.Open(b.w.c, b.s, b.m, nil); got != nil || e != api.EFORM {
			t.Errorf("order %d: Open with nil: %v", order, e)
		}
		b.check()
	}
}

// P5.1, P5.6: the lists have the heads that were handed in, whatever these are; nothing is read or written.
func TestOpenKeepsAnyHead(t *testing.T) {
	b := newBoth(t, example(), 1)
	b.take(0)
	for _, heads := range [][]uint64{{0, 0, 0}, {1, 2, 3}, {math.MaxUint64, 0, 65536}, {69632, 69632, 77824}} {
		got, e := buddy.Open(b.w.c, b.s, b.m, heads)
		if e != api.OK || !slices.Equal(got.Heads(), heads) {
			t.Errorf("Open(%v): %v, %v", heads, got.Heads(), e)
		}
	}
	b.check()
}

// P5.1: a buddy that is opened with another's heads goes on where that one stood.
func TestOpenGoesOn(t *testing.T) {
	for seed := range 20 {
		row := numbers(seed)
		b := newBoth(t, api.Config{Base: 1 << 20, Limit: 3, Order: seed % 4}, 1)
		for range 200 {
			b.call(&row)
			b.open(b.b.Heads()...)
			b.check()
		}
	}
}

// R4: the heads that are handed in are neither changed nor kept, their spare room included.
func TestHeadsHandedIn(t *testing.T) {
	b := newBoth(t, example(), 1)
	b.take(0)
	room := append(b.b.Heads(), 7, 8, 9)
	want := slices.Clone(room)
	b.open(room[:3]...)
	b.take(0)
	b.take(1)
	b.give(65536, 0)
	if !slices.Equal(room, want) {
		t.Errorf("the heads handed in: %v, not %v", room, want)
	}
	for i := range room {
		room[i] = 1
	}
	b.check()
}

// R4: what Heads and Free answer is new memory, spare room too.
func TestListsAnswered(t *testing.T) {
	b := newBoth(t, api.Config{Base: 1 << 20, Limit: 8, Order: 0}, 8)
	spoil := func(list []uint64) {
		list = list[:cap(list)]
		for i := range list {
			list[i] = 1
		}
	}
	first, second := b.b.Free(0), b.b.Free(0)
	spoil(first)
	if want := b.w.lists[0]; !slices.Equal(second, want) {
		t.Errorf("Free(0): %v, not %v", second, want)
	}
	heads := b.b.Heads()
	spoil(b.b.Heads())
	if !slices.Equal(heads, []uint64{1<<20 + 7*4096}) {
		t.Errorf("Heads: %v", heads)
	}
	b.check()
}

// R5: two buddies on spaces and maps of their own know nothing of one another.
func TestTwo(t *testing.T) {
	one, other := newBoth(t, example(), 1), newBoth(t, example(), 0)
	one.take(0)
	other.check()
	other.wantTaken(other.takes(0), taken{0, api.ENOMEM})
	other.come()
	other.take(2)
	one.check()
	one.want("Give", one.give(65536, 0), api.OK)
	one.check()
	other.check()
	row := numbers(5)
	for range 300 {
		one.call(&row)
		other.check()
		other.call(&row)
		one.check()
	}
}

// P5.1, P5.8: of a Config that may not be, and of a space or a map that is not of the Config, calls end and don't panic.
func TestUnfit(t *testing.T) {
	orders := []int{math.MinInt, -64, -1, 0, 1, 2, 8, 9, 64, math.MaxInt}
	for _, order := range orders {
		for _, base := range []uint64{0, 1, 4096, 65536, 1<<63 - 4096, math.MaxUint64, math.MaxUint64 - 4095} {
			for _, laid := range []int{0, 2, 8} {
				unfit(t, api.Config{Base: base, Limit: 2, Order: order}, laid, 2-laid/4)
				unfit(t, api.Config{Base: base, Limit: 2, Order: order}, 2-laid/4, laid)
			}
		}
	}
}

// P5.8: a map of a greater Order has pairs of the buddy's own order: they are none of its.
func TestGreaterMap(t *testing.T) {
	c := api.Config{Base: 65536, Limit: 2, Order: 0}
	s, m := newSpace(t, c), pagemap.New(1)
	s.Commit(false)
	s.Commit(false)
	m.Grow()
	m.Run(0, 0, api.PageBig)
	m.Run(1, 0, api.PageBig)
	b := buddy.New(c, s, m)
	for range 3 {
		b.Give(65536, 0)
		b.Give(69632, 0)
		b.Take(0)
		b.Give(65536, 0)
		b.Give(69632, 0)
	}
}

// unfit makes a buddy of a Config over a space of one order and a map of another, and asks all of it.
func unfit(t *testing.T, c api.Config, spaceOrder, mapOrder int) {
	t.Helper()
	s, m := newSpace(t, api.Config{Base: 1 << 20, Limit: 4, Order: spaceOrder}), pagemap.New(mapOrder)
	b := buddy.New(c, s, m)
	for range 3 {
		askAll(b, c.Base)
		s.Commit(false)
		askAll(b, 1<<20)
		m.Grow()
		askAll(b, c.Base)
	}
	for n := range 12 {
		heads := make([]uint64, n)
		for i := range heads {
			heads[i] = 1 << 20
		}
		if opened, e := buddy.Open(c, s, m, heads); e == api.OK {
			askAll(opened, 1<<20)
		}
	}
}

// askAll asks all calls of a buddy, with orders and addresses that may be and such that may not. What it answers is not looked at.
func askAll(b *buddy.Buddy, base uint64) {
	orders := []int{math.MinInt, -64, -1, 0, 1, 2, 7, 8, 9, 63, 64, math.MaxInt}
	b.Feed()
	b.Pull()
	b.Feed()
	for _, order := range orders {
		b.Take(order)
		b.Free(order)
		for _, p := range []uint64{0, 1, base, base - 4096, base + 4096, base + 4097, base + 1<<20, math.MaxUint64, math.MaxUint64 - 4095} {
			b.Give(p, order)
			for _, to := range orders {
				b.Shrink(p, order, to)
			}
		}
	}
	b.Heads()
}
