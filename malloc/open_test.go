package malloc_test

import (
	"math"
	"slices"
	"testing"

	"croft/api"
	"croft/malloc"
	"croft/region"
	"croft/slab"
)

func wantOpen(t *testing.T, im api.Image) *malloc.Heap {
	t.Helper()
	h, e := malloc.Open(im)
	if h == nil || e != api.OK {
		t.Fatalf("Open: %v, %v", h, e)
	}
	return h
}

// newBothOf makes a heap and its model of an image, with the live blocks of another model.
func newBothOf(t *testing.T, im api.Image, w *model) *both {
	t.Helper()
	m := &model{c: im.Config, live: map[uint64]uint64{}}
	var e api.Errno
	if m.p, e = region.Open(im.Config, im.Regions, im.Mem, im.Pages, im.Pairs, im.Heads); e != api.OK {
		t.Fatalf("region.Open: %v", e)
	}
	m.s, _ = slab.Open(m.p, im.Partial)
	for _, b := range w.blocks() {
		m.live[b.P] = b.Size
	}
	return &both{t, wantOpen(t, im), m}
}

// callBut does one of the calls, but none that changes the block at kept.
func (b *both) callBut(row *numbers, kept uint64) {
	b.t.Helper()
	r := b.w.live[kept]
	delete(b.w.live, kept) // so that no call is drawn to it
	next := *row
	p := b.place(&next)
	b.w.live[kept] = r
	if kept <= p && p < kept+r {
		p = 0
	}
	switch size := row.size(b.w.c); row.below(6) {
	case 0:
		b.trim()
	case 1, 2:
		b.malloc(size, false)
	case 3:
		b.realloc(p, size, false)
	default:
		b.free(p)
	}
}

// used is a heap beside its model that calls have gone over, with live blocks of several sizes in it.
func used(t *testing.T, c api.Config, seed int) *both {
	t.Helper()
	b := newBoth(t, c)
	row := numbers(seed)
	for range 120 {
		b.call(&row)
	}
	b.check()
	return b
}

// P8.2: Open of what Image tells, of an empty heap and wherever it is asked in long rows of calls: a heap that answers all further calls as this one would.
func TestOpenGoesOn(t *testing.T) {
	for seed := range 30 {
		row := numbers(seed)
		b := newBoth(t, api.Config{Base: 1 << 20, Limit: 1 + seed%4, Order: seed % 4})
		for range 150 {
			b.h = wantOpen(t, b.h.Image())
			b.check()
			b.call(&row)
		}
		b.check()
	}
}

// P8.2: the same of the greatest ones.
func TestOpenOfGreatOnes(t *testing.T) {
	for order := range 9 {
		limit := min(64, 1024>>order)
		b := newBoth(t, api.Config{Base: 1<<63 - uint64(limit)*4096<<order, Limit: limit, Order: order})
		for range limit {
			b.takes(4096 << order)
		}
		b.h = wantOpen(t, b.h.Image())
		b.check()
		b.refusedMalloc(1, false, api.ENOMEM)
		b.frees(b.w.c.Base)
		b.h = wantOpen(t, b.h.Image())
		b.is(b.malloc(1, true), answer{b.w.c.Base, api.OK})
	}
}

// refusedOpen asks that no heap is made of an image.
func refusedOpen(t *testing.T, what string, im api.Image, want api.Errno) {
	t.Helper()
	if h, e := malloc.Open(im); h != nil || e != want {
		t.Errorf("Open with %s: %v, %v; not %v", what, h, e, want)
	}
}

// resized tells copies of a list: empty, one too short, one too long, twice as long; none of the right length.
func resized[T any](list []T) [][]T {
	var one T
	all := [][]T{nil, append(slices.Clone(list), one), slices.Concat(list, list, []T{one})}
	if len(list) == 0 {
		return all[1:]
	}
	return append(all, slices.Clone(list[:len(list)-1]))
}

// P8.2: each list of an image, those in Pairs too, has just one length.
func TestOpenOfWrongLengths(t *testing.T) {
	for order := range 4 {
		for regions := range 3 {
			c := api.Config{Base: 1 << 20, Limit: 2, Order: order}
			b := newBoth(t, c)
			for range regions {
				b.takes(regionBytes(c))
			}
			im := b.h.Image()
			wrongLengths(t, im)
			wantOpen(t, im)
			im.Config.Base = 1
			wrong := im
			wrong.Mem = nil
			wrong.Heads = nil
			refusedOpen(t, "a Base of 1", im, api.EINVAL)
			refusedOpen(t, "a Base of 1 and no lists", wrong, api.EINVAL)
		}
	}
}

func wrongLengths(t *testing.T, im api.Image) {
	t.Helper()
	wrong := im
	for _, wrong.Mem = range resized(im.Mem) {
		refusedOpen(t, "wrong Mem", wrong, api.EFORM)
	}
	wrong = im
	for _, wrong.Pages = range resized(im.Pages) {
		refusedOpen(t, "wrong Pages", wrong, api.EFORM)
	}
	wrong = im
	for _, wrong.Pairs = range resized(im.Pairs) {
		refusedOpen(t, "wrong Pairs", wrong, api.EFORM)
	}
	for k := range im.Pairs {
		for _, words := range resized(im.Pairs[k]) {
			wrong.Pairs = slices.Clone(im.Pairs)
			wrong.Pairs[k] = words
			refusedOpen(t, "a wrong list in Pairs", wrong, api.EFORM)
		}
	}
	wrong = im
	for _, wrong.Heads = range resized(im.Heads) {
		refusedOpen(t, "wrong Heads", wrong, api.EFORM)
	}
	wrong = im
	for _, wrong.Partial = range resized(im.Partial) {
		refusedOpen(t, "wrong Partial", wrong, api.EFORM)
	}
}

// P8.2: Regions below 0, above Limit, and others than the lists are for.
func TestOpenOfWrongRegions(t *testing.T) {
	for order := range 4 {
		c := api.Config{Base: 1 << 20, Limit: 2, Order: order}
		b := newBoth(t, c)
		b.takes(regionBytes(c))
		im := b.h.Image()
		for _, im.Regions = range []int{math.MinInt, -64, -1, 0, 2, 3, 64, 65, 1 << 20, 1 << 52, math.MaxInt} {
			refusedOpen(t, "wrong Regions", im, api.EFORM)
		}
		b.takes(regionBytes(c))
		im = b.h.Image()
		im.Config.Limit = 1
		refusedOpen(t, "more regions than Limit", im, api.EFORM)
		im.Config.Limit = 3
		h := wantOpen(t, im)
		if p, e := h.Malloc(regionBytes(c), false); p != 1<<20+2*regionBytes(c) || e != api.OK {
			t.Errorf("Malloc: %d, %v", p, e)
		}
	}
}

// P8.2: a Config that may not be, ahead of all else that is wrong.
func TestOpenOfNoConfig(t *testing.T) {
	im := used(t, example(), 3).h.Image()
	for _, im.Config = range []api.Config{{}, {Base: 0, Limit: 2, Order: 1}, {Base: 4096, Limit: 2, Order: 1}, {Base: 65536, Limit: 0, Order: 1}, {Base: 65536, Limit: 65, Order: 1}, {Base: 65536, Limit: 2, Order: -1}, {Base: 1 << 21, Limit: 2, Order: 9}, {Base: 1 << 63, Limit: 2, Order: 1}, {Base: 1<<63 - 8192, Limit: 2, Order: 1}} {
		refusedOpen(t, "a Config that may not be", im, api.EINVAL)
		wrong := api.Image{Config: im.Config, Regions: -1}
		refusedOpen(t, "a Config that may not be and no lists", wrong, api.EINVAL)
	}
	refusedOpen(t, "nothing", api.Image{}, api.EINVAL)
	refusedOpen(t, "a Config alone", api.Image{Config: example()}, api.EFORM)
}

// P8.2: of no region all lists of pages are empty.
func TestOpenOfNoRegion(t *testing.T) {
	none := []int{-1, -1, -1, -1, -1, -1, -1, -1}
	im := api.Image{Config: example(), Pairs: [][]uint64{nil}, Heads: []uint64{0, 0}, Partial: none}
	b := newBoth(t, example())
	b.h = wantOpen(t, im)
	b.check()
	b.is(b.malloc(17, false), answer{65536, api.OK})
	im.Pairs = nil
	refusedOpen(t, "no list of pairs", im, api.EFORM)
}

// roomy tells an image like im, each list of it in one with spare room behind, and a function that says whether all of these are as they were made.
func roomy(im api.Image) (api.Image, func() bool) {
	mem := append(slices.Clone(im.Mem), 1, 2, 3, 4, 5, 6, 7, 8)
	pages := append(slices.Clone(im.Pages), api.Page{Kind: 77}, api.Page{Kind: 78})
	pairs := append(slices.Clone(im.Pairs), []uint64{70}, []uint64{71})
	heads := append(slices.Clone(im.Heads), 72, 73)
	partial := append(slices.Clone(im.Partial), 74, 75)
	for k := range im.Pairs {
		pairs[k] = append(slices.Clone(im.Pairs[k]), 76, 77)[:len(im.Pairs[k])]
	}
	whole := api.Image{Mem: mem, Pages: pages, Pairs: nil, Heads: heads, Partial: partial}
	for _, words := range pairs {
		whole.Pairs = append(whole.Pairs, words[:cap(words)])
	}
	ahead := copied(whole)
	room := im
	room.Mem, room.Pages, room.Pairs = mem[:len(im.Mem)], pages[:len(im.Pages)], pairs[:len(im.Pairs)]
	room.Heads, room.Partial = heads[:len(im.Heads)], partial[:len(im.Partial)]
	return room, func() bool {
		for k, words := range pairs {
			if len(words) > 0 && &words[0] != &whole.Pairs[k][0] {
				return false
			}
		}
		return same(whole, ahead)
	}
}

// copied is an image that shares nothing with im.
func copied(im api.Image) api.Image {
	im.Mem, im.Pages, im.Heads, im.Partial = slices.Clone(im.Mem), slices.Clone(im.Pages), slices.Clone(im.Heads), slices.Clone(im.Partial)
	pairs := make([][]uint64, len(im.Pairs))
	for k, words := range im.Pairs {
		pairs[k] = slices.Clone(words)
	}
	im.Pairs = pairs
	return im
}

// spoil writes over all of an image, spare room too.
func spoil(im api.Image) {
	mem, pages, heads, partial := im.Mem[:cap(im.Mem)], im.Pages[:cap(im.Pages)], im.Heads[:cap(im.Heads)], im.Partial[:cap(im.Partial)]
	for i := range mem {
		mem[i] = 0xdd
	}
	for i := range pages {
		pages[i] = api.Page{Kind: 4, Order: 3, Class: 5, Live: 77, Next: 1, Prev: 2, First: 6, Bits: [4]uint64{1, 2, 3, 4}}
	}
	for i := range heads {
		heads[i] = 0xdddd
	}
	for i := range partial {
		partial[i] = 55
	}
	for _, words := range im.Pairs {
		words = words[:cap(words)]
		for i := range words {
			words[i] = 0xdddddddd
		}
	}
	pairs := im.Pairs[:cap(im.Pairs)]
	for i := range pairs {
		pairs[i] = nil
	}
}

// R4: the lists that are handed in, lists in them too, are neither changed nor kept, spare room included.
func TestImageHandedIn(t *testing.T) {
	for seed := range 12 {
		b := used(t, api.Config{Base: 1 << 20, Limit: 4, Order: seed % 4}, seed)
		room, stays := roomy(b.h.Image())
		b.h = wantOpen(t, room)
		row := numbers(seed)
		for range 150 {
			b.call(&row)
		}
		b.check()
		if !stays() {
			t.Fatal("the image that was handed in has changed")
		}
		short := room
		short.Partial = room.Partial[:7]
		refusedOpen(t, "seven heads of partial lists", short, api.EFORM)
		if !stays() {
			t.Fatal("an image that was refused has changed")
		}
		spoil(room)
		b.check()
		for range 150 {
			b.call(&row)
		}
		b.check()
	}
}

// R4, P8.2: an image that was told is new memory, spare room too: written over, it changes neither the heap nor another image; and what is done then does not change it.
func TestImageTold(t *testing.T) {
	for seed := range 12 {
		b := used(t, api.Config{Base: 1 << 20, Limit: 4, Order: seed % 4}, seed)
		one, other := b.h.Image(), b.h.Image()
		stays := copied(other)
		spoil(one)
		b.check()
		row := numbers(seed)
		for range 100 {
			b.call(&row)
		}
		b.check()
		if !same(other, stays) {
			t.Fatal("an image that was told has changed")
		}
	}
}

// R4: no two lists of one image share memory, and Live's is new each time.
func TestListsApart(t *testing.T) {
	b := used(t, api.Config{Base: 1 << 20, Limit: 4, Order: 3}, 5)
	im := b.h.Image()
	for k := range im.Pairs {
		want := copied(im)
		words := im.Pairs[k][:cap(im.Pairs[k])]
		for i := range words {
			words[i] = 7
		}
		heads := im.Heads[:cap(im.Heads)]
		for i := range heads {
			heads[i] = 8
		}
		for i := range want.Pairs[k] {
			want.Pairs[k][i] = 7
		}
		for i := range want.Heads {
			want.Heads[i] = 8
		}
		if !same(im, want) {
			t.Fatalf("the words of order %d or the heads share memory with another list", k)
		}
	}
	one, other := b.h.Live(), b.h.Live()
	one = one[:cap(one)]
	clear(one)
	if !slices.Equal(other, b.w.blocks()) {
		t.Error("what Live tells shares memory")
	}
	b.check()
}

// R5: a heap and what was opened of its image know nothing of one another.
func TestOpenedApart(t *testing.T) {
	for seed := range 6 {
		row := numbers(seed)
		one := used(t, api.Config{Base: 1 << 20, Limit: 4, Order: 2}, seed)
		other := newBothOf(t, one.h.Image(), one.w)
		for range 100 {
			one.call(&row)
			other.check()
			other.call(&row)
			one.check()
		}
	}
}
