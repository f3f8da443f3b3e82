package pagemap_test

import (
	"math"
	"testing"

	"croft/api"
	"croft/pagemap"
)

var farNumbers = []int{math.MinInt, math.MinInt + 1, -4096, -64, -2, 256, 257, 4096, 1 << 32, math.MaxInt - 1, math.MaxInt}

// P4.4: all classes; every page that may be, and those that may not.
func TestSlab(t *testing.T) {
	b := newBoth(t, 2, 2)
	for class := range api.Classes {
		for _, page := range []int{0, 3, 7} {
			b.run(page/4*4, 2, api.PageFree)
			if e := b.slab(page, class); e != api.OK {
				t.Fatalf("Slab(%d, %d): %v", page, class, e)
			}
			checkAt(t, b.m, page, slabPage(class))
			b.own(page, 0, true)
			b.own(page, 1, true)
			b.chain(page, 1, 2)
			b.first(page, 1)
			b.check()
			b.slab(page, class) // once more: nothing of what it was stays
			checkAt(t, b.m, page, slabPage(class))
			b.check()
		}
	}
	for _, n := range append(farNumbers, -1, 8) {
		if e := b.slab(n, 0); e != api.EINVAL {
			t.Errorf("Slab(%d, 0): %v", n, e)
		}
		if e := b.slab(0, n); e != api.EINVAL {
			t.Errorf("Slab(0, %d): %v", n, e)
		}
		b.check()
	}
}

// P4.4: of all classes the last cell, and the one behind it.
func TestLastCell(t *testing.T) {
	for class, cells := range []int{256, 128, 64, 32, 16, 8, 4, 2} {
		m := pagemap.New(0)
		m.Grow()
		m.Slab(0, class)
		if e := m.Own(0, cells, true); e != api.EINVAL {
			t.Errorf("class %d: Own of cell %d: %v", class, cells, e)
		}
		if e := m.First(0, cells); e != api.EINVAL {
			t.Errorf("class %d: First of cell %d: %v", class, cells, e)
		}
		checkAt(t, m, 0, slabPage(class))
		if e := m.Own(0, cells-1, true); e != api.OK {
			t.Errorf("class %d: Own of cell %d: %v", class, cells-1, e)
		}
		if e := m.First(0, cells-1); e != api.OK {
			t.Errorf("class %d: First of cell %d: %v", class, cells-1, e)
		}
		want := slabPage(class)
		want.Live, want.First = 1, cells-1
		want.Bits[(cells-1)/64] = 1 << ((cells - 1) % 64)
		checkAt(t, m, 0, want)
	}
}

// P4.4: every cell of every class, one by one, and back; Bits and Live follow.
func TestOwnEveryCell(t *testing.T) {
	for class := range api.Classes {
		b := newBoth(t, 1, 2)
		b.slab(1, class)
		b.slab(2, class)
		for cell := range 256 >> class {
			if e := b.own(1, cell, false); e != api.EINVAL {
				t.Errorf("class %d: cell %d is not live, Own false: %v", class, cell, e)
			}
			if e := b.own(1, cell, true); e != api.OK {
				t.Errorf("class %d: Own of cell %d: %v", class, cell, e)
			}
			if e := b.own(1, cell, true); e != api.EINVAL {
				t.Errorf("class %d: cell %d is live, Own true: %v", class, cell, e)
			}
			b.check()
		}
		if p, _ := b.m.At(1); p.Live != 256>>class {
			t.Errorf("class %d: %d live", class, p.Live)
		}
		for cell := range 256 >> class {
			if e := b.own(1, cell, false); e != api.OK {
				t.Errorf("class %d: Own of cell %d back: %v", class, cell, e)
			}
			b.check()
		}
		checkAt(t, b.m, 1, slabPage(class))
	}
}

// P4.4: a page that is no slab, or not there, is refused by each call that asks for one.
func TestCallsAskForASlab(t *testing.T) {
	b := newBoth(t, 2, 3)
	b.run(4, 2, api.PageFree)
	b.slab(8, 0)
	for _, page := range append(farNumbers, -1, 12, 13, 0, 3, 4, 7, 9) {
		for name, e := range map[string]api.Errno{
			"Own": b.own(page, 0, true), "Own back": b.own(page, 0, false), "Chain": b.chain(page, -1, -1), "First": b.first(page, -1), "First of a cell": b.first(page, 0),
		} {
			if e != api.EINVAL {
				t.Errorf("%s of page %d: %v", name, page, e)
			}
		}
		b.check()
	}
}

// P4.4: cells that are none.
func TestCellsNotThere(t *testing.T) {
	b := newBoth(t, 1, 1)
	b.slab(0, 0)
	b.first(0, 9)
	for _, cell := range farNumbers {
		if e := b.own(0, cell, true); e != api.EINVAL {
			t.Errorf("Own of cell %d: %v", cell, e)
		}
		if e := b.own(0, cell, false); e != api.EINVAL {
			t.Errorf("Own back of cell %d: %v", cell, e)
		}
		if e := b.first(0, cell); e != api.EINVAL {
			t.Errorf("First of cell %d: %v", cell, e)
		}
		b.check()
	}
	if e := b.own(0, -1, true); e != api.EINVAL {
		t.Errorf("Own of cell -1: %v", e)
	}
	if e := b.first(0, -1); e != api.OK {
		t.Errorf("First of -1: %v", e)
	}
	checkAt(t, b.m, 0, slabPage(0))
}

// P4.4: Next and Prev of -1, of the last page and behind it; a page may be its own neighbour, and a neighbour need be no slab.
func TestChain(t *testing.T) {
	b := newBoth(t, 2, 2)
	b.slab(5, 7)
	for _, row := range []struct {
		next, prev int
		e          api.Errno
	}{
		{7, 0, api.OK}, {0, 7, api.OK}, {5, 5, api.OK}, {-1, 7, api.OK}, {7, -1, api.OK}, {3, 4, api.OK},
		{8, 0, api.EINVAL}, {0, 8, api.EINVAL}, {-2, 0, api.EINVAL}, {0, -2, api.EINVAL}, {8, 8, api.EINVAL}, {-1, 8, api.EINVAL}, {8, -1, api.EINVAL},
		{-1, -1, api.OK},
	} {
		if e := b.chain(5, row.next, row.prev); e != row.e {
			t.Errorf("Chain(5, %d, %d): %v, not %v", row.next, row.prev, e, row.e)
		}
		b.check()
	}
	for _, n := range farNumbers {
		if b.chain(5, n, -1) != api.EINVAL || b.chain(5, -1, n) != api.EINVAL {
			t.Errorf("Chain of %d", n)
		}
		b.check()
	}
}

// P4.4: a map that was opened keeps the Live that it was given, and counts on from there.
func TestOwnCountsFromWhatItWas(t *testing.T) {
	for _, live := range []int{0, 1, 7, 255, 256} {
		page := slabPage(6)
		page.Live, page.Bits = live, [4]uint64{3, 0, 1, 1 << 63} // four cells; what is beyond them is only kept
		m, e := pagemap.Open(0, []api.Page{page}, nil)
		if e != api.OK {
			t.Fatalf("Open with Live %d: %v", live, e)
		}
		checkAt(t, m, 0, page)
		if m.Own(0, 0, true) != api.EINVAL || m.Own(0, 2, false) != api.EINVAL || m.Own(0, 128, false) != api.EINVAL {
			t.Error("Own of cells that are so already, or not there")
		}
		checkAt(t, m, 0, page)
		if m.Own(0, 0, false) != api.OK || m.Own(0, 1, false) != api.OK {
			t.Error("Own back")
		}
		page.Live, page.Bits[0] = live-2, 0
		checkAt(t, m, 0, page)
		for cell := range 4 {
			if e := m.Own(0, cell, true); e != api.OK {
				t.Errorf("Own of cell %d: %v", cell, e)
			}
		}
		page.Live, page.Bits[0] = live+2, 15
		checkAt(t, m, 0, page)
		want := api.OK
		if live+2 > 256 {
			want = api.EFORM // P4.6: out of range, though the map came to it by its own calls
		}
		if _, e := plainOf(0, m).open(); e != want {
			t.Errorf("Open of Plain with Live %d: %v, not %v", live+2, e, want)
		}
	}
}
