package pagemap_test

import (
	"slices"
	"testing"

	"croft/api"
	"croft/pagemap"
)

func region(order int) *pagemap.Map {
	m := pagemap.New(order)
	m.Grow()
	return m
}

func checkErrors(t *testing.T, what string, got, want []api.Errno) {
	t.Helper()
	if !slices.Equal(got, want) {
		t.Errorf("%s: %v, not %v", what, got, want)
	}
}

// The chapter's table of examples: blocks.
func TestExamplesOfBlocks(t *testing.T) {
	m := region(2)
	if m.Pages() != 4 {
		t.Errorf("Pages: %d", m.Pages())
	}
	checkAt(t, m, 0, api.Page{Kind: api.PageBig, Order: 2, Next: -1, Prev: -1, First: -1})
	checkAt(t, m, 3, api.Page{Kind: api.PageBigRest, Order: 2, Next: -1, Prev: -1, First: -1})
	if p, ok := m.At(4); ok || p != (api.Page{}) {
		t.Errorf("At(4): %v, %v", p, ok)
	}
	checkErrors(t, "Run",
		[]api.Errno{m.Run(1, 1, api.PageFree), m.Run(2, 1, api.PageFree), m.Run(2, 1, api.PageSlab), m.Run(0, 3, api.PageBig)},
		[]api.Errno{api.EINVAL, api.OK, api.EINVAL, api.EINVAL})
	checkAt(t, m, 2, api.Page{Kind: api.PageFree, Order: 1, Next: -1, Prev: -1, First: -1})
	checkAt(t, m, 3, api.Page{Kind: api.PageFreeRest, Order: 1, Next: -1, Prev: -1, First: -1})
	if m.Head(3) != 2 || m.Head(1) != 0 || m.Head(9) != -1 {
		t.Errorf("Head(3), Head(1), Head(9): %d, %d, %d", m.Head(3), m.Head(1), m.Head(9))
	}
}

// The chapter's table of examples: cells.
func TestExamplesOfCells(t *testing.T) {
	m := region(2)
	checkErrors(t, "Slab, Own",
		[]api.Errno{m.Slab(1, 7), m.Own(1, 2, true), m.Own(1, 1, true), m.Own(1, 1, true)},
		[]api.Errno{api.OK, api.EINVAL, api.OK, api.EINVAL})
	checkAt(t, m, 1, api.Page{Kind: api.PageSlab, Class: 7, Live: 1, Next: -1, Prev: -1, First: -1, Bits: [4]uint64{2}})
	checkErrors(t, "Chain, First",
		[]api.Errno{m.Chain(1, 4, -1), m.Chain(1, 3, -1), m.First(1, 0), m.First(1, 2), m.First(0, -1)},
		[]api.Errno{api.EINVAL, api.OK, api.OK, api.EINVAL, api.EINVAL})
	checkAt(t, m, 1, api.Page{Kind: api.PageSlab, Class: 7, Live: 1, Next: 3, Prev: -1, First: 0, Bits: [4]uint64{2}})
}

// The chapter's table of examples: pairs, and plain data.
func TestExamplesOfPairs(t *testing.T) {
	m := region(2)
	if m.Pair(0, 3) {
		t.Error("Pair(0, 3) at first")
	}
	if got, e := m.Flip(0, 3); !got || e != api.OK || !m.Pair(0, 2) || m.Pair(0, 1) {
		t.Errorf("Flip(0, 3): %v, %v", got, e)
	}
	if got, e := m.Flip(2, 0); got || e != api.EINVAL {
		t.Errorf("Flip(2, 0): %v, %v", got, e)
	}
	if got, e := m.Flip(1, 0); !got || e != api.OK {
		t.Errorf("Flip(1, 0): %v, %v", got, e)
	}
	p := plainOf(2, m)
	if !slices.EqualFunc(p.pairs, [][]uint64{{2}, {1}}, slices.Equal[[]uint64]) {
		t.Errorf("pairs: %v", p.pairs)
	}
	if _, e := pagemap.Open(2, p.pages[:3], p.pairs); e != api.EFORM {
		t.Errorf("Open(2) without the last page: %v", e)
	}
	if _, e := pagemap.Open(1, p.pages, p.pairs); e != api.EFORM {
		t.Errorf("Open(1) of the same: %v", e)
	}
	m.Shrink(1)
	m.Grow()
	if p := plainOf(2, m); !slices.EqualFunc(p.pairs, [][]uint64{{0}, {0}}, slices.Equal[[]uint64]) {
		t.Errorf("pairs of a region that came again: %v", p.pairs)
	}
}
