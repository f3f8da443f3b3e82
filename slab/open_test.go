package slab_test

import (
	"math"
	"slices"
	"testing"

	"croft/api"
	"croft/region"
	"croft/slab"
)

func wantOpen(t *testing.T, p *region.Pool, partial []int) *slab.Slab {
	t.Helper()
	s, e := slab.Open(p, partial)
	if s == nil || e != api.OK {
		t.Fatalf("Open(%v): %v, %v", partial, s, e)
	}
	return s
}

// again is a pool of what another one tells.
func again(t *testing.T, p *region.Pool, c api.Config) *region.Pool {
	t.Helper()
	d := tell(p, nil, c)
	q, e := region.Open(c, d.regions, d.bytes, d.pages, d.pairs, d.heads)
	if e != api.OK {
		t.Fatalf("region.Open: %v", e)
	}
	return q
}

// P7.1: heads are eight, no fewer and no more; nothing is read or written.
func TestOpenOfWrongHeads(t *testing.T) {
	b := newBoth(t, api.Config{Base: 65536, Limit: 2, Order: 1})
	wrong := func() {
		t.Helper()
		for _, n := range []int{0, 1, 2, 7, 9, 16, 300} {
			b.refused(func() api.Errno {
				s, e := slab.Open(b.p, make([]int, n))
				if s != nil {
					t.Errorf("Open with %d heads answers a slab", n)
				}
				return e
			}, api.EFORM)
		}
		if s, e := slab.Open(b.p, nil); s != nil || e != api.EFORM {
			t.Errorf("Open without heads: %v", e)
		}
	}
	wrong()
	b.takes(3, 2)
	wrong()
}

// P7.1, P7.4: the heads may be any numbers, and are told as they are; of new ones they are all -1, also where another slab has pages.
func TestHeads(t *testing.T) {
	b := newBoth(t, api.Config{Base: 65536, Limit: 2, Order: 1})
	look := func() {
		t.Helper()
		b.refused(func() api.Errno {
			for _, heads := range [][]int{{-1, -1, -1, -1, -1, -1, -1, -1}, {0, 1, 2, 3, 4, 5, 6, 7}, {7, 6, 5, 4, 3, 2, 1, 0}, {-2, math.MinInt, math.MaxInt, 1024, 0, 0, -1, 3}} {
				if got := wantOpen(t, b.p, heads).Partial(); !slices.Equal(got, heads) {
					t.Errorf("Partial: %v, not %v", got, heads)
				}
			}
			if got := slab.New(b.p).Partial(); !slices.Equal(got, []int{-1, -1, -1, -1, -1, -1, -1, -1}) {
				t.Errorf("Partial of a new one: %v", got)
			}
			return api.OK
		}, api.OK)
	}
	look()
	b.takes(2, 3)
	look()
}

// P7.1: each head is that of its own class.
func TestOpenOfEachHead(t *testing.T) {
	for class := range 8 {
		b := newBoth(t, api.Config{Base: 65536, Limit: 2, Order: 2})
		b.takes((class+1)%8, 1)
		b.takes(class, 1)
		heads := []int{-1, -1, -1, -1, -1, -1, -1, -1}
		heads[class] = 1
		b.s = wantOpen(t, b.p, heads)
		b.w.lists[(class+1)%8] = nil
		b.check()
		b.wantTake(class, true, taken{69632 + sizeOf(class), false, api.OK})
		b.wantTake((class+1)%8, true, taken{73728, false, api.OK})
	}
}

// P7.1: a slab over a pool that has regions already, with or without live blocks.
func TestNewOverUsedPool(t *testing.T) {
	for order := range 9 {
		b := newBoth(t, api.Config{Base: 1 << 20, Limit: 3, Order: order})
		at := b.need(order, false)
		b.need(order, false)
		b.back(at)
		b.s = slab.New(b.p)
		b.check()
		b.wantTake(5, true, taken{1 << 20, false, api.OK})
		b.wantTake(5, true, taken{1<<20 + 512, false, api.OK})
		b.wantSize(1<<20, 512)
		b.wantGive(1<<20, api.OK)
		b.wantGive(1<<20+512, api.OK)
	}
}

// P7.1: what a slab tells is opened as one that answers as that one does, wherever it is told, over its pool and over what that one tells.
func TestOpenGoesOn(t *testing.T) {
	for seed := range 30 {
		row := numbers(seed)
		b := newBoth(t, api.Config{Base: 1 << 20, Limit: 1 + seed%4, Order: seed % 4})
		for range 150 {
			b.call(&row)
			if seed%2 == 0 {
				b.p = again(t, b.p, b.w.c)
			}
			b.s = wantOpen(t, b.p, b.s.Partial())
			b.check()
		}
	}
}

// R4: the list that is handed in is neither changed nor kept, its spare room included.
func TestHandedIn(t *testing.T) {
	b := newBoth(t, api.Config{Base: 1 << 20, Limit: 4, Order: 1})
	for class := range 8 {
		b.takes(class, 1)
	}
	room := append(b.s.Partial(), 70, 71, 72, 73)
	want := slices.Clone(room)
	b.s = wantOpen(t, b.p, room[:8])
	play := func(seed numbers) {
		t.Helper()
		for range 150 {
			b.call(&seed)
		}
		b.check()
	}
	play(1)
	if !slices.Equal(room, want) {
		t.Errorf("the list that was handed in: %v, not %v", room, want)
	}
	for i := range room {
		room[i] = 77
	}
	b.check()
	play(2)
	if s, e := slab.Open(b.p, room[:7]); s != nil || e != api.EFORM || slices.Max(room) != 77 || slices.Min(room) != 77 {
		t.Errorf("Open of seven heads: %v, and the list %v", e, room)
	}
}

// R4: what is told is new memory, spare room too.
func TestTold(t *testing.T) {
	b := newBoth(t, api.Config{Base: 1 << 20, Limit: 4, Order: 1})
	b.takes(4, 1)
	one, other := b.s.Partial(), b.s.Partial()
	one = one[:cap(one)]
	for i := range one {
		one[i] = 77
	}
	if !slices.Equal(other, []int{-1, -1, -1, -1, 0, -1, -1, -1}) || !slices.Equal(b.s.Partial(), other) {
		t.Errorf("what is told is not new: %v, %v", other, b.s.Partial())
	}
	b.check()
	b.wantTake(4, true, taken{1<<20 + 256, false, api.OK})
}

// R5: two slabs over two pools know nothing of one another.
func TestTwo(t *testing.T) {
	c := api.Config{Base: 1 << 20, Limit: 3, Order: 1}
	one, other := newBoth(t, c), newBoth(t, c)
	row := numbers(5)
	for range 150 {
		one.call(&row)
		other.check()
		other.call(&row)
		one.check()
	}
	pool := again(t, one.p, c)
	opened := wantOpen(t, pool, one.s.Partial())
	stays := tell(pool, opened.Partial(), c)
	for range 150 {
		one.call(&row)
	}
	one.check()
	if !same(tell(pool, opened.Partial(), c), stays) {
		t.Error("what is done on one slab is seen on another")
	}
	for i := range 60 {
		opened.Take(i%8, false)
	}
	one.check()
}
