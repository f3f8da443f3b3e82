package pagemap_test

import (
	"math"
	"testing"

	"croft/api"
	"croft/pagemap"
)

func checkAt(t *testing.T, m *pagemap.Map, page int, want api.Page) {
	t.Helper()
	if got, ok := m.At(page); got != want || !ok {
		t.Errorf("At(%d): %v, %v, not %v", page, got, ok, want)
	}
}

// fill leaves no page and no pair bit as a region has them that comes.
func (b *both) fill() {
	b.t.Helper()
	for page := range b.m.Pages() {
		b.slab(page, page%8)
		b.own(page, 1, true)
		for k := range b.w.order {
			if page%power(k+1) == 0 {
				b.flip(k, page)
			}
		}
	}
	b.check()
}

// P4.1: an order that may not be counts as the nearest that may.
func TestOrders(t *testing.T) {
	for order, want := range map[int]int{
		math.MinInt: 1, -64: 1, -4: 1, -1: 1, 0: 1, 1: 2, 2: 4, 7: 128, 8: 256, 9: 256, 64: 256, 99: 256, math.MaxInt: 256,
	} {
		m := pagemap.New(order)
		if got := m.Pages(); got != 0 {
			t.Errorf("New(%d).Pages(): %d", order, got)
		}
		if _, pairs := m.Plain(); power(len(pairs)) != want {
			t.Errorf("New(%d): %d lists of pairs", order, len(pairs))
		}
		m.Grow()
		if got := m.Pages(); got != want {
			t.Errorf("New(%d), Grow: %d pages, not %d", order, got, want)
		}
	}
}

// P4.1: a region that comes is one block, its pair bits 0, and what is there stays.
func TestGrow(t *testing.T) {
	for order := range 9 {
		b := newBoth(t, order, 0)
		b.check()
		for region := range 3 {
			b.grow()
			b.check()
			top := region * power(order)
			checkAt(t, b.m, top, blockPage(api.PageBig, order))
			if last := top + power(order) - 1; last > top {
				checkAt(t, b.m, last, blockPage(api.PageBigRest, order))
			}
			b.slab(top, 3)
			b.own(top, 5, true)
			b.chain(top, top, 0)
			for k := range order {
				b.flip(k, top)
			}
			b.check()
		}
	}
}

// P4.1, Limits: MaxPages pages may be there, whatever their regions are; a Grow past them does nothing.
func TestGrowPastTheEnd(t *testing.T) {
	for order := range 9 {
		b := newBoth(t, order, 1024>>order)
		if got := b.m.Pages(); got != api.MaxPages {
			t.Fatalf("order %d: %d pages", order, got)
		}
		b.flip(0, 1023)
		b.slab(1023, 0)
		b.m.Grow()
		b.check()
		b.shrink(1)
		b.check()
		b.grow()
		b.m.Grow()
		b.check()
	}
}

// P4.1: Shrink of none, of some, of all, of too many and of fewer than none.
func TestShrink(t *testing.T) {
	for order := range 5 {
		b := newBoth(t, order, 5)
		b.fill()
		for _, row := range []struct {
			n, left int
			e       api.Errno
		}{
			{0, 5, api.OK}, {6, 5, api.EINVAL}, {-1, 5, api.EINVAL}, {math.MinInt, 5, api.EINVAL}, {math.MaxInt, 5, api.EINVAL},
			{1 << 62, 5, api.EINVAL}, {1, 4, api.OK}, {5, 4, api.EINVAL}, {2, 2, api.OK}, {2, 0, api.OK}, {1, 0, api.EINVAL}, {0, 0, api.OK}, {-1, 0, api.EINVAL},
		} {
			if got := b.shrink(row.n); got != row.e {
				t.Errorf("order %d: Shrink(%d): %v, not %v", order, row.n, got, row.e)
			}
			b.check()
			if got := b.m.Pages(); got != row.left*power(order) {
				t.Errorf("order %d, behind Shrink(%d): %d pages", order, row.n, got)
			}
		}
	}
}

// P4.1, P4.5: pages and pair bits of a region that went are new when it comes again, those of the others stay.
func TestRegionComesAgain(t *testing.T) {
	for order := range 9 {
		b := newBoth(t, order, 4)
		b.fill()
		b.shrink(2)
		b.check()
		b.grow()
		b.check()
		kept, top := 2*power(order)-1, 2*power(order)
		checkAt(t, b.m, top, blockPage(api.PageBig, order))
		for k := range order {
			if !b.m.Pair(k, kept) || b.m.Pair(k, top) {
				t.Errorf("order %d: Pair(%d, %d), Pair(%d, %d): %v, %v", order, k, kept, k, top, b.m.Pair(k, kept), b.m.Pair(k, top))
			}
		}
		b.grow()
		b.check()
	}
}

// P4.2: pages that are not there, at either side.
func TestPagesNotThere(t *testing.T) {
	m := pagemap.New(1)
	m.Grow()
	for _, page := range []int{math.MinInt, -2, -1, 2, 3, 4096, math.MaxInt} {
		if got, ok := m.At(page); got != (api.Page{}) || ok {
			t.Errorf("At(%d): %v, %v", page, got, ok)
		}
		if got := m.Head(page); got != -1 {
			t.Errorf("Head(%d): %d", page, got)
		}
	}
	if got, ok := pagemap.New(0).At(0); got != (api.Page{}) || ok || pagemap.New(0).Head(0) != -1 {
		t.Errorf("of no regions: At(0): %v, %v", got, ok)
	}
}

// P4.2: the head of a page is told by its own order, in blocks of each order.
func TestHead(t *testing.T) {
	m := pagemap.New(8)
	for range 4 {
		m.Grow()
	}
	for order := range 9 {
		for _, start := range []int{512, 1024 - power(order)} {
			if e := m.Run(start, order, api.PageFree); e != api.OK {
				t.Fatal(order, start, e)
			}
			for i := range power(order) {
				if got := m.Head(start + i); got != start {
					t.Errorf("order %d: Head(%d): %d, not %d", order, start+i, got, start)
				}
			}
		}
	}
	m.Slab(259, 2)
	if m.Head(259) != 259 || m.Head(258) != 256 || m.Head(260) != 256 {
		t.Errorf("Head(259), Head(258), Head(260): %d, %d, %d", m.Head(259), m.Head(258), m.Head(260))
	}
}

// P4.3: every page, order and kind close to those that may be, and far from them; where it is refused nothing changes.
func TestRun(t *testing.T) {
	for order := range 4 {
		for _, size := range []int{math.MinInt, -64, -1, 0, 1, 2, 3, 4, 9, 63, 64, 65, math.MaxInt} {
			for kind := -1; kind < 7; kind++ {
				b := newBoth(t, order, 2)
				b.fill()
				for page := -2; page < b.m.Pages()+2; page++ {
					b.run(page, size, kind)
					b.check()
				}
				b.run(math.MinInt, size, kind)
				b.run(math.MaxInt, size, kind)
				b.run(math.MaxInt-1, size, kind)
				b.run(math.MaxInt-7, size, kind)
				b.run(1<<62, size, kind)
				b.check()
			}
		}
	}
}

// P4.3: the first page and the others, of both kinds; the neighbours stay.
func TestRunWritesABlock(t *testing.T) {
	for _, kinds := range [][2]int{{api.PageFree, api.PageFreeRest}, {api.PageBig, api.PageBigRest}} {
		m := pagemap.New(3)
		m.Grow()
		for page := range 8 {
			m.Slab(page, page)
			m.Own(page, 1, true)
			m.Chain(page, 7, 0)
			m.First(page, 1)
		}
		before, _ := m.Plain()
		if e := m.Run(4, 1, kinds[0]); e != api.OK {
			t.Fatalf("Run(4, 1, %d): %v", kinds[0], e)
		}
		checkAt(t, m, 4, blockPage(kinds[0], 1))
		checkAt(t, m, 5, blockPage(kinds[1], 1))
		for _, page := range []int{0, 1, 2, 3, 6, 7} {
			checkAt(t, m, page, before[page])
		}
		if e := m.Run(7, 0, kinds[0]); e != api.OK {
			t.Fatalf("Run(7, 0, %d): %v", kinds[0], e)
		}
		checkAt(t, m, 7, blockPage(kinds[0], 0))
		checkAt(t, m, 6, before[6])
	}
}

// P4.5: every order and page close to those that may be, and far from them.
func TestPairs(t *testing.T) {
	far := []int{math.MinInt, -64, -1, 64, 1 << 20, math.MaxInt}
	for order := range 9 {
		b := newBoth(t, order, 2)
		for k := -2; k < order+3; k++ {
			for _, page := range append([]int{-2, -1, 0, 1, power(order) - 1, power(order), 2*power(order) - 1, 2 * power(order), 2*power(order) + 1}, far...) {
				b.flip(k, page)
				b.check()
			}
		}
		for _, k := range far {
			if got, e := b.m.Flip(k, 0); got || e != api.EINVAL || b.m.Pair(k, 0) {
				t.Errorf("Flip(%d, 0): %v, %v", k, got, e)
			}
		}
		b.check()
	}
}

// P4.5, P4.7: a bit belongs to all pages of its pair and to no other; turned twice it is as it was.
func TestPairBelongsToItsPages(t *testing.T) {
	for order := 1; order < 9; order++ {
		for _, k := range []int{0, order - 1} {
			m := pagemap.New(order)
			m.Grow()
			m.Grow()
			size := power(k + 1)
			start := 2*power(order) - size // the last pair
			if got, e := m.Flip(k, start+size/2); !got || e != api.OK {
				t.Fatalf("Flip(%d, %d): %v, %v", k, start+size/2, got, e)
			}
			for page := range m.Pages() {
				if got := m.Pair(k, page); got != (page >= start) {
					t.Errorf("order %d: Pair(%d, %d): %v", order, k, page, got)
				}
			}
			if got, e := m.Flip(k, m.Pages()-1); got || e != api.OK || m.Pair(k, start) {
				t.Errorf("order %d: Flip(%d, ..) once more: %v, %v", order, k, got, e)
			}
		}
	}
}

// P4.5: a map of order 0 has no pairs.
func TestNoPairs(t *testing.T) {
	m := pagemap.New(0)
	m.Grow()
	if got, e := m.Flip(0, 0); got || e != api.EINVAL || m.Pair(0, 0) {
		t.Errorf("Flip(0, 0): %v, %v", got, e)
	}
}

// P4.7: turned twice, all is as it was, in whatever state the map is.
func TestFlipTwice(t *testing.T) {
	row := numbers(3)
	b := newBoth(t, 3, 3)
	for range 50 {
		b.call(&row)
		for page := -1; page < b.m.Pages()+2; page++ {
			for k := -1; k < 5; k++ {
				b.m.Flip(k, page)
				b.m.Flip(k, page)
			}
		}
		b.check()
	}
}
