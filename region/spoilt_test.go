package region_test

import (
	"math"
	"testing"

	"croft/api"
	"croft/region"
)

// spoiler writes into what is a pool's, and goes on calling it: what is answered is not looked at, but each call ends.
type spoiler struct {
	c   api.Config
	p   *region.Pool
	row numbers
}

func newSpoiler(t *testing.T, c api.Config, seed int) *spoiler {
	t.Helper()
	x := &spoiler{c, newPool(t, c), numbers(seed)}
	for range x.row.below(12) {
		x.p.Need(x.row.below(c.Order+1), false)
	}
	return x
}

// word is most often an address of a page, or close to one.
func (x *spoiler) word() uint64 {
	switch x.row.below(8) {
	case 0:
		return 0
	case 1:
		return x.c.Base + uint64(x.row.below(2*regionBytes(x.c)))
	case 2:
		return math.MaxUint64 - uint64(x.row.below(20))
	default:
		return x.c.Base + 4096*uint64(x.row.below((x.c.Limit+1)*power(x.c.Order)))
	}
}

func (x *spoiler) spoil() {
	s, m := x.p.Space(), x.p.Map()
	page, order := x.row.below(m.Pages()+1), x.row.below(x.c.Order+1)
	switch x.row.below(8) {
	case 0:
		m.Run(page>>order<<order, order, api.PageFree)
	case 1:
		m.Run(page>>order<<order, order, api.PageBig)
	case 2:
		m.Slab(page, x.row.below(8))
	case 3:
		m.Flip(order, page)
	case 4:
		x.shake()
	default:
		s.SetWord(x.c.Base+4096*uint64(page)+8*uint64(x.row.below(2)), x.word())
	}
}

// shake brings space, map and buddy out of step.
func (x *spoiler) shake() {
	switch x.row.below(6) {
	case 0:
		x.p.Map().Grow()
	case 1:
		x.p.Map().Shrink(1)
	case 2:
		x.p.Space().Commit(false)
	case 3:
		x.p.Buddy().Pull()
	case 4:
		x.p.Buddy().Feed()
	default:
		x.p.Space().Decommit(1)
	}
}

func (x *spoiler) call() {
	order, at := x.row.below(x.c.Order+3)-1, x.word()
	if page, there := x.p.Map().At(int(at-x.c.Base) / 4096); there && x.row.below(4) > 0 {
		order = page.Order
	}
	switch x.row.below(6) {
	case 0:
		x.p.Trim()
	case 1, 2:
		x.p.Need(order, x.row.below(3) == 0)
	default:
		x.p.Give(at, order)
	}
}

// R1: whatever was written into the free blocks and the map, and however many regions they were given, calls end and don't panic.
func TestSpoilt(t *testing.T) {
	for seed := range 1500 {
		x := newSpoiler(t, api.Config{Base: 1 << 20, Limit: 1 + seed%4, Order: seed % 5}, seed)
		for range 60 {
			x.call()
			if x.row.below(3) == 0 {
				x.spoil()
			}
		}
	}
}

// R1: the same of pools of any data; the calls of what they stand on end, too.
func TestSpoiltData(t *testing.T) {
	row := numbers(1)
	for seed := range 300 {
		c := api.Config{Base: 1 << 20, Limit: 1 + seed%4, Order: seed % 4}
		x := &spoiler{c: c, row: numbers(seed)}
		d := anyData(c, x.row.below(c.Limit+1), &row)
		for i := range d.heads {
			d.heads[i] = x.word()
		}
		x.p = d.wantOpen(t)
		for range 40 {
			x.call()
			for order := range c.Order + 2 {
				x.p.Buddy().Free(order)
			}
		}
	}
}

// R1: lists that were made rings.
func TestRings(t *testing.T) {
	for _, ring := range [][]uint64{{65536}, {65536, 69632}, {69632, 65536, 73728}, {73728, 73736}} {
		p := newPool(t, api.Config{Base: 65536, Limit: 4})
		for range 3 {
			p.Need(0, false)
		}
		for i := range uint64(3) {
			p.Give(65536+4096*i, 0)
		}
		for i, at := range ring {
			next := ring[(i+1)%len(ring)]
			p.Space().SetWord(at, next)
			p.Space().SetWord(next+8, at)
		}
		for range 10 {
			p.Trim()
			p.Need(0, false)
			p.Give(65536, 0)
			p.Give(69632, 0)
			p.Need(0, true)
		}
	}
}

// R1: regions that came or went past the pool: Trim ends, Need ends, and no more than Limit regions are there.
func TestOutOfStep(t *testing.T) {
	for order := range 3 {
		for more := -2; more < 6; more++ {
			p := newPool(t, api.Config{Base: 65536, Limit: 4, Order: order})
			p.Need(order, false)
			p.Need(order, false)
			p.Give(65536, order)
			for range more {
				p.Map().Grow()
			}
			p.Map().Shrink(-more)
			for range 10 {
				p.Need(order, false)
				p.Need(0, false)
			}
			p.Trim()
			if got := p.Space().Regions(); got < 0 || got > 4 {
				t.Errorf("%d regions", got)
			}
		}
	}
}
