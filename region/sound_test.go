package region_test

import (
	"bytes"
	"testing"

	"croft/api"
	"croft/region"
)

// owner uses a pool by what it answers alone: it knows the live blocks, and what they hold, and asks P6.6 of the rest.
type owner struct {
	t       *testing.T
	c       api.Config
	p       *region.Pool
	regions int
	live    []block
}

// block is a live one, with what was written into it.
type block struct {
	page, order int
	data        []byte
}

func (o *owner) address(page int) uint64 { return o.c.Base + 4096*uint64(page) }

// meets says whether a live block has one of so many pages from that one on.
func (o *owner) meets(page, count int) bool {
	for _, b := range o.live {
		if b.page < page+count && page < b.page+power(b.order) {
			return true
		}
	}
	return false
}

// full says whether each committed stretch of 2^order pages at a multiple of its size meets a live block.
func (o *owner) full(order int) bool {
	for page := 0; page < o.regions*power(o.c.Order); page += power(order) {
		if !o.meets(page, power(order)) {
			return false
		}
	}
	return true
}

func (o *owner) need(order int, deny bool, row *numbers) {
	o.t.Helper()
	full := o.full(order)
	got := ask(o.p, order, deny)
	if full && (deny || o.regions == o.c.Limit) {
		if got != (needed{0, false, api.ENOMEM}) {
			o.t.Fatalf("Need(%d, %v), with no place: %v", order, deny, got)
		}
		return
	}
	if got.e != api.OK || got.grew != full {
		o.t.Fatalf("Need(%d, %v), full: %v: %v", order, deny, full, got)
	}
	if full {
		o.regions++
	}
	page, size := int(got.at-o.c.Base)/4096, power(order)
	if got.at < o.c.Base || got.at%(4096<<order) != 0 || page+size > o.regions*power(o.c.Order) || o.meets(page, size) {
		o.t.Fatalf("Need(%d, %v): %v is no block, or meets a live one", order, deny, got)
	}
	o.hold(page, order, row)
}

// hold fills a live block with bytes, and remembers them.
func (o *owner) hold(page, order int, row *numbers) {
	o.t.Helper()
	piece := []byte{byte(row.below(256)), byte(row.below(256)), byte(page + 1)}
	data := bytes.Repeat(piece, 4096<<order)[:4096<<order]
	if e := o.p.Space().Write(o.address(page), data); e != api.OK {
		o.t.Fatalf("the block of order %d at page %d is not committed: %v", order, page, e)
	}
	o.live = append(o.live, block{page, order, data})
}

func (o *owner) give(i int) {
	o.t.Helper()
	b := o.live[i]
	if e := o.p.Give(o.address(b.page), b.order); e != api.OK {
		o.t.Fatalf("Give of a live block: %v", e)
	}
	if e := o.p.Give(o.address(b.page), b.order); e != api.EINVAL {
		o.t.Fatalf("Give of one given back: %v", e)
	}
	o.live = append(o.live[:i:i], o.live[i+1:]...)
}

// trim: just the regions at the top go that meet no live block.
func (o *owner) trim() {
	o.t.Helper()
	want, size := 0, power(o.c.Order)
	for o.regions > want && !o.meets((o.regions-want-1)*size, size) {
		want++
	}
	if got := o.p.Trim(); got != want {
		o.t.Fatalf("Trim: %d, not %d", got, want)
	}
	o.regions -= want
}

func (o *owner) check() {
	o.t.Helper()
	if got := o.p.Space().Regions(); got != o.regions || o.p.Map().Pages() != got*power(o.c.Order) {
		o.t.Fatalf("%d regions, %d pages; not %d regions", got, o.p.Map().Pages(), o.regions)
	}
	for _, b := range o.live {
		if got, e := o.p.Space().Read(o.address(b.page), uint64(len(b.data))); e != api.OK || !bytes.Equal(got, b.data) {
			o.t.Fatalf("the live block of order %d at page %d does not hold what was written", b.order, b.page)
		}
	}
}

func (o *owner) call(row *numbers) {
	o.t.Helper()
	switch kind := row.below(10); {
	case kind == 0:
		o.trim()
	case kind < 6 || len(o.live) == 0:
		o.need(min(row.below(o.c.Order+1), row.below(o.c.Order+1)), row.below(3) == 0, row)
	default:
		o.give(row.below(len(o.live)))
	}
}

// P6.6: behind long rows of calls; and when all is given back and trimmed, no region is left.
func TestWhatFollows(t *testing.T) {
	for seed := range 40 {
		row := numbers(seed)
		c := api.Config{Base: 1 << 20, Limit: 1 + seed%5, Order: seed % 6}
		o := &owner{t: t, c: c, p: newPool(t, c)}
		for range 200 {
			o.call(&row)
			o.check()
			if row.below(20) == 0 {
				o.p = tell(o.p, c).wantOpen(t)
			}
		}
		for len(o.live) > 0 {
			o.give(row.below(len(o.live)))
			o.check()
		}
		o.trim()
		o.check()
		if o.p.Space().Regions() != 0 || o.p.Map().Pages() != 0 || o.p.Space().End() != c.Base {
			t.Errorf("seed %d: all is given back, and %d regions are left", seed, o.p.Space().Regions())
		}
	}
}

// P6.6: a live block keeps its bytes while all around it is handed out, written over and given back.
func TestLiveKeeps(t *testing.T) {
	for order := range 9 {
		c := api.Config{Base: 1 << 20, Limit: 3, Order: order}
		o := &owner{t: t, c: c, p: newPool(t, c)}
		row := numbers(order)
		o.need(order, false, &row)
		o.need(0, false, &row)
		for k := range order + 1 {
			o.need(k, false, &row)
			o.check()
			o.give(len(o.live) - 1)
			o.trim()
			o.check()
		}
		o.give(0)
		o.trim()
		o.check()
	}
}
