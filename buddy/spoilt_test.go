package buddy_test

import (
	"math"
	"slices"
	"testing"

	"croft/api"
	"croft/buddy"
	"croft/mem"
	"croft/pagemap"
)

// spoiler writes where only the buddy should.
type spoiler struct {
	c   api.Config
	s   *mem.Space
	m   *pagemap.Map
	b   *buddy.Buddy
	row numbers
}

func newSpoiler(t *testing.T, c api.Config, seed int) *spoiler {
	t.Helper()
	s, m := newSpace(t, c), pagemap.New(c.Order)
	x := &spoiler{c, s, m, buddy.New(c, s, m), numbers(seed)}
	for range 1 + seed%c.Limit {
		s.Commit(false)
		m.Grow()
		x.b.Feed()
	}
	return x
}

// word is one that may stand in a link: most often an address that leads somewhere.
func (x *spoiler) word() uint64 {
	page := uint64(x.row.below(x.m.Pages() + 2))
	switch x.row.below(8) {
	case 0:
		return 0
	case 1:
		return math.MaxUint64 - uint64(x.row.below(20))
	case 2:
		return x.c.Base + 4096*page + uint64(x.row.below(4096))
	case 3:
		return x.c.Base - 4096*page
	}
	return x.c.Base + 4096*page
}

// spoil writes over links, pages or pairs, or lets regions come and go past the buddy.
func (x *spoiler) spoil() {
	page, order := x.row.below(x.m.Pages()+1), x.row.below(x.c.Order+1)
	switch x.row.below(10) {
	case 0:
		x.m.Run(page>>order<<order, order, api.PageFree)
	case 1:
		x.m.Run(page>>order<<order, order, api.PageBig)
	case 2:
		x.m.Slab(page, x.row.below(8))
	case 3:
		x.m.Flip(order, page)
	case 4:
		x.shake()
	default:
		x.s.SetWord(x.c.Base+4096*uint64(page)+8*uint64(x.row.below(2)), x.word())
	}
}

// shake brings space and map out of step.
func (x *spoiler) shake() {
	switch x.row.below(4) {
	case 0:
		x.m.Grow()
	case 1:
		x.m.Shrink(1)
	case 2:
		x.s.Commit(false)
	default:
		x.s.Decommit(1)
	}
}

func (x *spoiler) call() {
	order, p := x.row.below(x.c.Order+2), x.word()
	if at, there := x.m.At(int(p-x.c.Base) / 4096); there && x.row.below(4) > 0 {
		order = at.Order
	}
	switch x.row.below(8) {
	case 0:
		x.b.Feed()
	case 1:
		x.b.Pull()
	case 2, 3:
		x.b.Take(order)
	case 4:
		x.b.Shrink(p, order, x.row.below(order+1))
	case 5:
		x.b.Free(order)
		x.b.Heads()
	default:
		x.b.Give(p, order)
	}
}

// R1, P5.8: whatever was written into free blocks or the map, calls end and don't panic.
func TestSpoilt(t *testing.T) {
	for seed := range 1500 {
		x := newSpoiler(t, api.Config{Base: 1 << 20, Limit: 1 + seed%4, Order: seed % 5}, seed)
		for range 60 {
			x.call()
			if x.row.below(3) == 0 {
				x.spoil()
			}
		}
	}
}

// R1, P5.8: the same of buddies that are opened with any heads.
func TestSpoiltHeads(t *testing.T) {
	for seed := range 400 {
		x := newSpoiler(t, api.Config{Base: 1 << 20, Limit: 1 + seed%4, Order: seed % 5}, seed)
		for range 10 {
			heads := make([]uint64, x.c.Order+1)
			for i := range heads {
				heads[i] = x.word()
			}
			x.b, _ = buddy.Open(x.c, x.s, x.m, heads)
			for range 20 {
				x.call()
			}
		}
	}
}

// R1: lists that were made rings, of one address and of two.
func TestRings(t *testing.T) {
	for _, ring := range [][]uint64{{65536}, {65536, 69632}, {65536, 65544}} {
		b := newBoth(t, api.Config{Base: 65536, Limit: 4, Order: 0}, 3)
		for i, p := range ring {
			next := ring[(i+1)%len(ring)]
			b.s.SetWord(p, next)
			b.s.SetWord(next+8, p)
		}
		b.open(ring[0])
		askAll(b.b, 65536)
	}
}

// P5.8: a head that names no block of its order is not handed out; nothing is changed.
func TestTakeOfNoBlock(t *testing.T) {
	for _, head := range []uint64{1, 4096, 61440, 65537, 65536 + 16, 69632, 65536 + 4*4096, math.MaxUint64} {
		b := newBoth(t, api.Config{Base: 65536, Limit: 2, Order: 1}, 2)
		b.takes(1, 1)
		b.open(0, head)
		for order := range 2 {
			if p, e := b.b.Take(order); p != 0 || e == api.OK {
				t.Errorf("Take(%d) with the head %d: %d, %v", order, head, p, e)
			}
			b.wantUntouched(0, head)
		}
	}
}

// P5.8: a free block that is gone, from the space or the map or both, is not handed out.
func TestTakeOfWhatIsGone(t *testing.T) {
	for gone := 1; gone < 4; gone++ {
		b := newBoth(t, api.Config{Base: 65536, Limit: 2, Order: 1}, 2)
		if gone&1 != 0 {
			b.decommit()
		}
		if gone&2 != 0 {
			b.cutMap()
		}
		for order := range 2 {
			if p, e := b.b.Take(order); p != 0 || e == api.OK {
				t.Errorf("Take(%d): %d, %v", order, p, e)
			}
			b.wantUntouched(0, 73728)
		}
	}
}

// open lets a buddy with those heads go on over the same space and map.
func (b *both) open(heads ...uint64) {
	b.t.Helper()
	opened, e := buddy.Open(b.w.c, b.s, b.m, heads)
	b.want("Open", e, api.OK)
	b.b = opened
}

// wantUntouched asks that map and memory are the model's, and the heads those.
func (b *both) wantUntouched(heads ...uint64) {
	b.t.Helper()
	if got := b.b.Heads(); !slices.Equal(got, heads) {
		b.t.Errorf("Heads: %v, not %v", got, heads)
	}
	b.checkMap()
	b.checkBytes()
}

// P5.8: where a list's first links were written over, what must come off it or on it is refused, and nothing is changed.
func TestSpoiltFirstBlock(t *testing.T) {
	b := newBoth(t, api.Config{Base: 65536, Limit: 3, Order: 1}, 2) // the first one is 73728
	b.take(1)
	b.give(73728, 1)
	b.write(73728+8, []byte{1})
	for order := range 2 {
		if p, e := b.b.Take(order); p != 0 || e == api.OK {
			t.Errorf("Take(%d): %d, %v", order, p, e)
		}
		b.wantUntouched(0, 73728)
	}
	b.want("Pull", b.b.Pull(), api.ESTATE)
	b.wantUntouched(0, 73728)
	b.commit()
	b.grow()
	b.want("Feed", b.b.Feed(), api.ESTATE)
	b.wantUntouched(0, 73728)
	if e := b.b.Give(81920, 1); e == api.OK {
		t.Error("Give onto such a list: OK")
	}
	b.wantUntouched(0, 73728)
	b.write(73728+8, []byte{0})
	b.want("Feed, the links mended", b.feed(), api.OK)
	b.check()
}

// P5.8: the same where the links of the one behind the first were written over.
func TestSpoiltSecondBlock(t *testing.T) {
	b := newBoth(t, api.Config{Base: 65536, Limit: 3, Order: 1}, 2)
	b.write(65536+8, []byte{1})
	b.want("Pull", b.b.Pull(), api.ESTATE)
	b.wantUntouched(0, 73728)
	if p, e := b.b.Take(1); p != 0 || e == api.OK {
		t.Errorf("Take(1): %d, %v", p, e)
	}
	b.wantUntouched(0, 73728)
}

// P5.8: a block stays whole where the list of its upper half was written over.
func TestShrinkOntoSpoiltList(t *testing.T) {
	b := newBoth(t, api.Config{Base: 65536, Limit: 2, Order: 1}, 2)
	b.takes(0, 1) // 77824 is free
	b.write(77824+8, []byte{1})
	if e := b.b.Shrink(65536, 1, 0); e == api.OK {
		t.Error("Shrink onto such a list: OK")
	}
	b.wantUntouched(77824, 0)
}

// P5.8: an other half whose links were written over is left alone; what is given back is free all the same.
func TestGiveBesideSpoiltHalf(t *testing.T) {
	b := newBoth(t, example(), 1)
	b.takes(0, 0, 0) // 77824 is free
	b.want("SetWord", b.s.SetWord(77824, 1), api.OK)
	b.want("Give", b.b.Give(73728, 0), api.OK)
	if got := b.b.Heads(); got[0] != 73728 || got[1] != 0 {
		t.Errorf("Heads: %v", got)
	}
	if p, e := b.b.Take(0); p != 73728 || e != api.OK {
		t.Errorf("Take(0): %d, %v", p, e)
	}
}
