package region_test

import (
	"slices"
	"testing"

	"croft/api"
	"croft/region"
)

// example is the table's Config: R is 8192, the pages are 65536 and 69632, 73728 and 77824.
func example() api.Config { return api.Config{Base: 65536, Limit: 2, Order: 1} }

// wantNeed asks what Need answers, and holds all else against the model.
func (b *both) wantNeed(order int, deny bool, want needed) {
	b.t.Helper()
	if got := b.need(order, deny); got != want {
		b.t.Errorf("Need(%d, %v): %v, not %v", order, deny, got, want)
	}
	b.check()
}

func (b *both) wantGive(at uint64, order int, want api.Errno) {
	b.t.Helper()
	b.want("Give", b.give(at, order), want)
	b.check()
}

func (b *both) wantTrim(want int) {
	b.t.Helper()
	if got := b.trim(); got != want {
		b.t.Errorf("Trim: %d, not %d", got, want)
	}
	b.check()
}

// The chapter's table of examples, row by row.
func TestExamples(t *testing.T) {
	b := newBoth(t, example())
	b.wantNeed(2, false, needed{0, false, api.EINVAL})
	b.wantNeed(-1, true, needed{0, false, api.EINVAL})
	b.wantNeed(0, true, needed{0, false, api.ENOMEM})
	b.wantTrim(0)

	b.wantNeed(0, false, needed{65536, true, api.OK})
	b.wantNeed(0, true, needed{69632, false, api.OK})
	b.wantNeed(0, true, needed{0, false, api.ENOMEM})

	b.wantNeed(1, false, needed{73728, true, api.OK})
	b.wantNeed(1, false, needed{0, false, api.ENOMEM})

	b.wantGive(73728, 0, api.EINVAL)
	b.wantGive(65536, 0, api.OK)
	b.wantTrim(0)

	b.wantGive(73728, 1, api.OK)
	b.wantTrim(1)
	if r, n := b.p.Space().Regions(), b.p.Map().Pages(); r != 1 || n != 2 {
		t.Errorf("%d regions, %d pages", r, n)
	}

	b.wantNeed(0, true, needed{65536, false, api.OK})
	if got := b.p.Buddy().Heads(); !slices.Equal(got, []uint64{0, 0}) {
		t.Errorf("Heads: %v", got)
	}

	b.wantGive(65536, 0, api.OK)
	b.wantGive(69632, 0, api.OK)
	b.wantTrim(1)
	if got := b.p.Space().End(); got != 65536 {
		t.Errorf("End: %d", got)
	}

	pairs, heads := [][]uint64{{0}}, []uint64{0, 0}
	pages := make([]api.Page, 2)
	if p, e := region.Open(example(), 1, make([]byte, 8192), pages, pairs, heads); p == nil || e != api.OK {
		t.Errorf("Open of 8192 bytes: %v", e)
	}
	if p, e := region.Open(example(), 1, make([]byte, 8191), pages, pairs, heads); p != nil || e != api.EFORM {
		t.Errorf("Open of 8191 bytes: %v", e)
	}
	if p, e := region.Open(api.Config{Base: 1, Limit: 2, Order: 1}, 1, make([]byte, 8191), pages, pairs, heads); p != nil || e != api.EINVAL {
		t.Errorf("Open with the Base 1: %v", e)
	}
}
