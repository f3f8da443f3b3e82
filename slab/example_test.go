package slab_test

import (
	"testing"

	"croft/api"
)

// The chapter's table of examples, row by row: two pages, 65536 and 69632.
func TestExamples(t *testing.T) {
	b := newBoth(t, api.Config{Base: 65536, Limit: 1, Order: 1})
	b.wantTake(0, true, taken{0, false, api.ENOMEM})
	b.wantTake(8, false, taken{0, false, api.EINVAL})
	b.wantTake(-1, true, taken{0, false, api.EINVAL})
	b.wantHead(0, -1)

	b.wantTake(7, false, taken{65536, true, api.OK})
	b.wantPage(0, api.Page{Kind: api.PageSlab, Class: 7, Live: 1, Next: -1, Prev: -1, First: 1, Bits: [4]uint64{1}})
	b.wantHead(7, 0)

	b.wantTake(7, false, taken{67584, false, api.OK})
	b.wantPage(0, api.Page{Kind: api.PageSlab, Class: 7, Live: 2, Next: -1, Prev: -1, First: -1, Bits: [4]uint64{3}})
	b.wantHead(7, -1)
	b.wantTake(7, true, taken{69632, false, api.OK})
	b.wantPage(1, api.Page{Kind: api.PageSlab, Class: 7, Live: 1, Next: -1, Prev: -1, First: 1, Bits: [4]uint64{1}})
	b.wantHead(7, 1)

	b.wantTake(6, false, taken{0, false, api.ENOMEM})
	b.wantSize(67584, 2048)
	b.wantSize(67585, 0)
	b.wantSize(71680, 0)

	b.wantGive(65536, api.OK)
	b.wantGive(65536, api.EINVAL)
	b.wantGive(65537, api.EINVAL)
	b.wantPage(0, api.Page{Kind: api.PageSlab, Class: 7, Live: 1, Next: 1, Prev: -1, First: 0, Bits: [4]uint64{2}})
	b.wantPage(1, api.Page{Kind: api.PageSlab, Class: 7, Live: 1, Next: -1, Prev: 0, First: 1, Bits: [4]uint64{1}})
	b.wantWord(65536, 0)
	b.wantHead(7, 0)

	b.wantGive(67584, api.OK)
	b.wantPage(0, api.Page{Kind: api.PageFree, Next: -1, Prev: -1, First: -1})
	b.wantPage(1, api.Page{Kind: api.PageSlab, Class: 7, Live: 1, Next: -1, Prev: -1, First: 1, Bits: [4]uint64{1}})
	b.wantHead(7, 1)
	if free := b.p.Buddy().Free(0); len(free) != 1 || free[0] != 65536 {
		t.Errorf("Free(0): %v", free)
	}

	b.wantTake(0, true, taken{65536, false, api.OK})
	b.wantTake(0, true, taken{65552, false, api.OK})
	b.wantPage(0, api.Page{Kind: api.PageSlab, Live: 2, Next: -1, Prev: -1, First: 2, Bits: [4]uint64{3}})
	b.wantWord(65568, 65584)
	b.wantWord(69616, 0)

	b.wantGive(65536, api.OK)
	b.wantTake(0, true, taken{65536, false, api.OK})
}
