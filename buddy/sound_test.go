package buddy_test

import (
	"bytes"
	"testing"

	"croft/api"
	"croft/buddy"
	"croft/mem"
	"croft/pagemap"
)

// owner uses a buddy by what it answers alone: it knows the live blocks, and what they hold, and asks P5.7 of the rest.
type owner struct {
	t       *testing.T
	c       api.Config
	s       *mem.Space
	m       *pagemap.Map
	b       *buddy.Buddy
	regions int
	live    []place
	held    map[uint64][]byte
}

func newOwner(t *testing.T, c api.Config) *owner {
	t.Helper()
	s, m := newSpace(t, c), pagemap.New(c.Order)
	return &owner{t: t, c: c, s: s, m: m, b: buddy.New(c, s, m), held: map[uint64][]byte{}}
}

func (o *owner) want(call string, got, want api.Errno) {
	o.t.Helper()
	if got != want {
		o.t.Fatalf("%s: %v, not %v", call, got, want)
	}
}

func (o *owner) come() {
	o.t.Helper()
	o.s.Commit(false)
	o.m.Grow()
	o.want("Feed", o.b.Feed(), api.OK)
	o.regions++
}

// meets says whether a live block has one of so many pages from that one on.
func (o *owner) meets(page, count int) bool {
	for _, block := range o.live {
		first := int(block.p-o.c.Base) / 4096
		if first < page+count && page < first+power(block.order) {
			return true
		}
	}
	return false
}

// fits says whether a stretch of 2^order pages at a multiple of these meets no live block.
func (o *owner) fits(order int) bool {
	size := power(order)
	for page := 0; page < o.regions*power(o.c.Order); page += size {
		if !o.meets(page, size) {
			return true
		}
	}
	return false
}

// leave pulls the top region out just if no live block meets it.
func (o *owner) leave() {
	o.t.Helper()
	size := power(o.c.Order)
	if o.regions == 0 || o.meets((o.regions-1)*size, size) {
		o.want("Pull", o.b.Pull(), api.ESTATE)
		return
	}
	o.want("Pull", o.b.Pull(), api.OK)
	o.want("Shrink", o.m.Shrink(1), api.OK)
	o.want("Decommit", o.s.Decommit(1), api.OK)
	o.regions--
}

func (o *owner) take(order int, row *numbers) {
	o.t.Helper()
	fits := o.fits(order)
	p, e := o.b.Take(order)
	if !fits {
		o.want("Take", e, api.ENOMEM)
		return
	}
	o.want("Take", e, api.OK)
	page := int(p-o.c.Base) / 4096
	if p%(4096<<order) != 0 || o.meets(page, power(order)) || page+power(order) > o.regions*power(o.c.Order) {
		o.t.Fatalf("Take(%d): %d is no block, or meets a live one", order, p)
	}
	o.live = append(o.live, place{p, order})
	o.hold(p, order, row)
}

// hold fills a live block with bytes, and remembers them.
func (o *owner) hold(p uint64, order int, row *numbers) {
	o.t.Helper()
	data := bytes.Repeat([]byte{byte(row.below(256)), byte(row.below(256)), byte(p >> 12)}, 4096<<order)[:4096<<order]
	o.want("Write", o.s.Write(p, data), api.OK)
	o.held[p] = data
}

func (o *owner) give(i int) {
	o.t.Helper()
	block := o.live[i]
	o.want("Give", o.b.Give(block.p, block.order), api.OK)
	o.want("Give twice", o.b.Give(block.p, block.order), api.EINVAL)
	o.live = append(o.live[:i:i], o.live[i+1:]...)
	delete(o.held, block.p)
}

func (o *owner) shrink(i, to int) {
	o.t.Helper()
	block := o.live[i]
	o.want("Shrink", o.b.Shrink(block.p, block.order, to), api.OK)
	o.live[i].order = to
	o.held[block.p] = o.held[block.p][:4096<<to]
}

// free gives all free blocks, as the lists tell them.
func (o *owner) free() []place {
	var list []place
	for order := range o.c.Order + 1 {
		for _, p := range o.b.Free(order) {
			list = append(list, place{p, order})
		}
	}
	return list
}

// check asks all that follows.
func (o *owner) check() {
	o.t.Helper()
	o.checkCover()
	isFree := map[place]bool{}
	for _, block := range o.free() {
		isFree[block] = true
	}
	for order := range o.c.Order {
		for page := 0; page < o.regions*power(o.c.Order); page += power(order + 1) {
			lower := place{o.c.Base + 4096*uint64(page), order}
			upper := place{lower.p + 4096<<order, order}
			if isFree[lower] && isFree[upper] {
				o.t.Fatalf("both halves at page %d are free, of order %d", page, order)
			}
			if o.m.Pair(order, page) != (isFree[lower] || isFree[upper]) {
				o.t.Fatalf("the bit of order %d at page %d: %v", order, page, o.m.Pair(order, page))
			}
		}
	}
	for p, data := range o.held {
		if got, _ := o.s.Read(p, uint64(len(data))); !bytes.Equal(got, data) {
			o.t.Fatalf("the live block at %d does not hold what was written", p)
		}
	}
}

// checkCover: every page lies in just one live or free block, and what is free lies in as great a block as it can.
func (o *owner) checkCover() {
	o.t.Helper()
	in := make([]int, o.regions*power(o.c.Order)) // for each page how many blocks
	freeOrder := make([]int, len(in))
	for _, block := range o.free() {
		page, there := int(block.p-o.c.Base)/4096, o.m.Pages()
		if at, _ := o.m.At(page); page >= there || at.Kind != api.PageFree || at.Order != block.order {
			o.t.Fatalf("the free block %v is no such page's: %v", block, at)
		}
		for i := range power(block.order) {
			in[page+i]++
			freeOrder[page+i] = block.order
		}
	}
	for _, block := range o.live {
		for i := range power(block.order) {
			in[int(block.p-o.c.Base)/4096+i]++
		}
	}
	for page, count := range in {
		if count != 1 {
			o.t.Fatalf("page %d lies in %d blocks", page, count)
		}
	}
	for order := range o.c.Order + 1 {
		for page := 0; page < len(in); page += power(order) {
			if !o.meets(page, power(order)) && freeOrder[page] < order {
				o.t.Fatalf("the 2^%d pages from %d on lie in no one free block", order, page)
			}
		}
	}
}

func (o *owner) call(row *numbers) {
	o.t.Helper()
	switch kind := row.below(10); {
	case kind == 0 && o.regions < o.c.Limit:
		o.come()
	case kind == 1:
		o.leave()
	case kind < 6 || len(o.live) == 0:
		o.take(min(row.below(o.c.Order+1), row.below(o.c.Order+1)), row)
	case kind == 6:
		i := row.below(len(o.live))
		o.shrink(i, row.below(o.live[i].order+1))
	default:
		o.give(row.below(len(o.live)))
	}
}

// P5.7: behind long rows of calls; and when all is given back, each region is one free block.
func TestWhatFollows(t *testing.T) {
	for seed := range 36 {
		row := numbers(seed)
		c := api.Config{Base: 1 << 20, Limit: 1 + seed%5, Order: seed % 6}
		o := newOwner(t, c)
		for range 200 {
			o.call(&row)
			o.check()
		}
		for len(o.live) > 0 {
			o.give(row.below(len(o.live)))
		}
		o.check()
		if got := o.b.Free(c.Order); len(got) != o.regions {
			t.Fatalf("all is given back: %v, of %d regions", got, o.regions)
		}
		for o.regions > 0 {
			o.leave()
		}
		o.check()
	}
}

// P5.7: all is taken page by page, and given back in many ways.
func TestAllTakenAndGivenBack(t *testing.T) {
	for order := range 9 {
		row := numbers(order)
		o := newOwner(t, api.Config{Base: 1 << 20, Limit: 2, Order: order})
		o.come()
		o.come()
		for range 2 * power(order) {
			o.take(0, &row)
		}
		o.take(0, &row) // one more finds nothing
		o.check()
		for len(o.live) > 0 {
			o.give(row.below(len(o.live)))
		}
		o.check()
		if got := o.b.Free(order); len(got) != 2 {
			t.Fatalf("order %d: all is given back: %v", order, got)
		}
	}
}
