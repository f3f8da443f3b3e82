package slab_test

import (
	"math"
	"testing"

	"croft/api"
	"croft/region"
	"croft/slab"
)

// spoiler writes into what is a slab's or its pool's, and goes on calling: what is answered is not looked at, but each call ends, and beside an error there is nothing.
type spoiler struct {
	t   *testing.T
	c   api.Config
	p   *region.Pool
	s   *slab.Slab
	row numbers
}

func newSpoiler(t *testing.T, c api.Config, seed int) *spoiler {
	t.Helper()
	p := newPool(t, c)
	x := &spoiler{t, c, p, slab.New(p), numbers(seed)}
	for range 40 {
		x.call()
	}
	return x
}

// word is most often an address of a cell.
func (x *spoiler) word() uint64 {
	p := x.c.Base + uint64(x.row.below((x.c.Limit+1)*4096<<x.c.Order))
	switch x.row.below(8) {
	case 0:
		return 0
	case 1:
		return p
	case 2:
		return math.MaxUint64 - uint64(x.row.below(5000))
	default:
		return p - p%sizeOf(4+x.row.below(5))
	}
}

func (x *spoiler) page() int { return x.row.below(x.p.Map().Pages()+2) - 1 }

func (x *spoiler) spoil() {
	m, order := x.p.Map(), x.row.below(x.c.Order+1)
	switch x.row.below(12) {
	case 0:
		m.Run(x.page()>>order<<order, order, api.PageFree)
	case 1:
		m.Run(x.page()>>order<<order, order, api.PageBig)
	case 2:
		m.Slab(x.page(), x.row.below(8))
	case 3, 4:
		m.Own(x.page(), x.row.below(256>>x.row.below(8)), x.row.below(2) == 0)
	case 5, 6:
		m.Chain(x.page(), x.page(), x.page())
	case 7, 8:
		m.First(x.page(), x.row.below(257>>x.row.below(8))-1)
	case 9:
		x.shake()
	default:
		x.p.Space().SetWord(x.word(), x.word())
	}
}

// shake brings space, map and buddy out of step, or the heads of the lists.
func (x *spoiler) shake() {
	switch x.row.below(8) {
	case 0:
		x.p.Map().Grow()
	case 1:
		x.p.Map().Shrink(1)
	case 2:
		x.p.Space().Commit(false)
	case 3:
		x.p.Space().Decommit(1)
	case 4:
		x.p.Buddy().Pull()
	case 5:
		x.s = slab.New(x.p)
	default:
		heads := x.s.Partial()
		heads[x.row.below(8)] = x.page()
		x.s = wantOpen(x.t, x.p, heads)
	}
}

func (x *spoiler) call() {
	x.t.Helper()
	switch x.row.below(12) {
	case 0:
		x.p.Trim()
	case 1:
		x.p.Need(x.row.below(x.c.Order+1), false)
	case 2, 3, 4, 5, 6:
		if got := ask(x.s, x.row.below(9), x.row.below(3) == 0); got.e != api.OK && (got.p != 0 || got.grew) {
			x.t.Fatalf("beside an error Take answers %v", got)
		}
	default:
		p := x.word()
		size, e := x.s.Size(p), x.s.Give(p)
		if size == 0 && e != api.EINVAL {
			x.t.Fatalf("Size %d, Give %v", size, e)
		}
	}
}

// R1, P7.6: whatever was written into the memory and the map, calls end and don't panic.
func TestSpoilt(t *testing.T) {
	for seed := range 1200 {
		x := newSpoiler(t, api.Config{Base: 1 << 20, Limit: 1 + seed%4, Order: seed % 4}, seed)
		for range 120 {
			x.call()
			if x.row.below(3) == 0 {
				x.spoil()
			}
		}
	}
}

// R1, P7.6: the same of a map of any data, and of any heads.
func TestSpoiltData(t *testing.T) {
	for seed := range 400 {
		x := &spoiler{t: t, c: api.Config{Base: 1 << 20, Limit: 1 + seed%4, Order: seed % 3}, row: numbers(seed)}
		count := (1 + x.row.below(x.c.Limit)) << x.c.Order
		pages := make([]api.Page, count)
		for i := range pages {
			pages[i] = x.anyPage(count)
		}
		pairs := [][]uint64{}
		for range x.c.Order {
			pairs = append(pairs, []uint64{uint64(x.row.below(256))})
		}
		heads := make([]uint64, x.c.Order+1)
		for i := range heads {
			heads[i] = x.word()
		}
		p, e := region.Open(x.c, count>>x.c.Order, make([]byte, 4096*count), pages, pairs, heads)
		if e != api.OK {
			t.Fatalf("region.Open: %v", e)
		}
		x.p = p
		for _, odd := range []int{-1, -2, math.MinInt, math.MaxInt, count - 1, count, 1 << 40} {
			x.s = wantOpen(t, p, []int{0, odd, x.page(), odd, x.page(), x.page(), x.page(), odd})
			for range 20 {
				x.call()
			}
		}
	}
}

func (x *spoiler) anyPage(count int) api.Page {
	return api.Page{
		Kind: []int{api.PageSlab, api.PageSlab, api.PageSlab, x.row.below(5)}[x.row.below(4)], Order: x.row.below(x.c.Order + 1),
		Class: x.row.below(8), Live: x.row.below(257), First: x.row.below(257) - 1,
		Next: x.row.below(count+1) - 1, Prev: x.row.below(count+1) - 1,
		Bits: [4]uint64{uint64(x.row.below(1 << 30)), uint64(x.row.below(2)), math.MaxUint64, uint64(x.row.below(1 << 30))},
	}
}

// R1: free cells whose words were made rings, lead to live ones, to other pages, into cells, and nowhere.
func TestSpoiltWords(t *testing.T) {
	for class := range 8 {
		size := sizeOf(class)
		for _, word := range []uint64{65536, 65536 + size, 65536 + 2*size, 65536 + 3*size, 69632 - size, 65536 + size/2, 65537, 69632, 65536 - size, 0, 1, 4096, 1 << 63, math.MaxUint64} {
			p := newPool(t, api.Config{Base: 65536, Limit: 2})
			s := slab.New(p)
			s.Take(class, false)
			p.Space().SetWord(65536+size, word)
			for range 3*countOf(class) + 5 {
				s.Take(class, false)
			}
			for at := uint64(65536); at < 73728; at += size {
				s.Give(at)
				s.Take(class, true)
			}
		}
	}
}

// P7.6: what is seen to be spoilt is refused ahead of the first change.
func TestSpoiltIsRefused(t *testing.T) {
	for class := range 8 {
		size := sizeOf(class)
		spoils := []func(b *both){
			func(b *both) { b.p.Space().SetWord(65536+size, 69632) },
			func(b *both) { b.p.Space().SetWord(65536+size, 65536+size/2) },
			func(b *both) { b.p.Space().SetWord(65536+size, math.MaxUint64) },
			func(b *both) { b.p.Space().Decommit(1) },
			func(b *both) { b.p.Map().First(0, -1) },
			func(b *both) { b.p.Map().First(0, 0) },
			func(b *both) { b.p.Map().Slab(0, (class+1)%8) },
			func(b *both) { b.p.Map().Slab(0, (class+1)%8); b.p.Map().First(0, 1) },
			func(b *both) { b.takes((class+1)%8, 1); b.p.Space().SetWord(65536+size, 69632) },
			func(b *both) { b.p.Map().Run(0, 0, api.PageBig) },
			func(b *both) { b.p.Map().Run(0, 0, api.PageFree) },
			func(b *both) { b.s = wantOpen(t, b.p, []int{9, 9, 9, 9, 9, 9, 9, 9}) },
			func(b *both) { b.s = wantOpen(t, b.p, []int{-2, -2, -2, -2, -2, -2, -2, -2}) },
		}
		for i, spoil := range spoils {
			b := newBoth(t, api.Config{Base: 65536, Limit: 2})
			b.takes(class, 1)
			spoil(b)
			ahead := tell(b.p, b.s.Partial(), b.w.c)
			if got := ask(b.s, class, false); got != (taken{0, false, api.EBROKEN}) {
				t.Errorf("class %d: %d: %v", class, i, got)
			}
			if !same(tell(b.p, b.s.Partial(), b.w.c), ahead) {
				t.Errorf("class %d: %d: a call that is refused has changed something", class, i)
			}
		}
	}
}

// P7.2: where the pool refuses a page, its error is the answer, whatever that is: here its free blocks were written over.
func TestSpoiltPool(t *testing.T) {
	c := api.Config{Base: 65536, Limit: 2, Order: 1}
	for _, word := range []uint64{1, 65536, 65537, 73728, math.MaxUint64} {
		var pools []*region.Pool
		for range 2 {
			p := newPool(t, c)
			p.Need(0, false)
			p.Space().SetWord(69632, word)
			pools = append(pools, p)
		}
		_, _, e := pools[0].Need(0, false)
		if got := ask(slab.New(pools[1]), 3, false); e == api.OK || got != (taken{0, false, e}) {
			t.Errorf("the pool answers %v, Take %v", e, got)
		}
	}
}

// P7.3, P7.4: on a page that is no slab page no cell is live, whatever its bits are.
func TestBitsOfOtherPages(t *testing.T) {
	c := api.Config{Base: 65536, Limit: 1}
	for kind := range api.PageSlab + 1 {
		all := uint64(math.MaxUint64)
		page := api.Page{Kind: kind, Live: 256, Next: -1, Prev: -1, First: -1, Bits: [4]uint64{all, all, all, all}}
		p, e := region.Open(c, 1, make([]byte, 4096), []api.Page{page}, nil, []uint64{0})
		if e != api.OK {
			t.Fatalf("region.Open: %v", e)
		}
		s := slab.New(p)
		for at := uint64(65536); at < 69632; at += 16 {
			wantSize, wantGive := uint64(0), api.EINVAL
			if kind == api.PageSlab {
				wantSize, wantGive = 16, api.OK
			}
			if size, e := s.Size(at), s.Give(at); size != wantSize || e != wantGive {
				t.Fatalf("kind %d: %d: Size %d, Give %v", kind, at, size, e)
			}
		}
	}
}
