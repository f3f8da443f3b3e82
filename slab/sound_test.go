package slab_test

import (
	"bytes"
	"testing"

	"croft/api"
	"croft/region"
	"croft/slab"
)

// owner uses a slab and its pool by what they answer alone: it knows the live blocks, and what they hold, and asks P7.5 of the rest.
type owner struct {
	t       *testing.T
	c       api.Config
	p       *region.Pool
	s       *slab.Slab
	regions int
	live    []block
}

// block is a live one, a cell or the pool's, with what was written into it.
type block struct {
	p, size uint64
	data    []byte
}

func newOwner(t *testing.T, c api.Config) *owner {
	p := newPool(t, c)
	return &owner{t: t, c: c, p: p, s: slab.New(p)}
}

func (o *owner) end() uint64 { return o.c.Base + uint64(o.regions)*4096<<o.c.Order }

// covered tells how many bytes of so many from p on live blocks have, and the size of the last of these blocks.
func (o *owner) covered(p, size uint64) (sum, last uint64) {
	for _, b := range o.live {
		from, to := max(p, b.p), min(p+size, b.p+b.size)
		if from < to {
			sum += to - from
			last = b.size
		}
	}
	return sum, last
}

// full says whether each committed page meets a live block, and each that holds a live one of that size has no other cells but live ones.
func (o *owner) full(size uint64) bool {
	for page := o.c.Base; page < o.end(); page += 4096 {
		if sum, of := o.covered(page, 4096); sum == 0 || of == size && sum < 4096 {
			return false
		}
	}
	return true
}

func (o *owner) take(class int, deny bool, row *numbers) {
	o.t.Helper()
	size := sizeOf(class)
	full := o.full(size)
	got := ask(o.s, class, deny)
	if full && (deny || o.regions == o.c.Limit) {
		if got != (taken{0, false, api.ENOMEM}) {
			o.t.Fatalf("Take(%d, %v), with no place: %v", class, deny, got)
		}
		return
	}
	if got.e != api.OK || got.grew != full {
		o.t.Fatalf("Take(%d, %v), full: %v: %v", class, deny, full, got)
	}
	if full {
		o.regions++
	}
	sum, _ := o.covered(got.p, size)
	if got.p < o.c.Base || got.p%size != 0 || got.p+size > o.end() || sum > 0 {
		o.t.Fatalf("Take(%d, %v): %v is no block, or meets a live one", class, deny, got)
	}
	if sum, of := o.covered(got.p-got.p%4096, 4096); sum > 0 && of != size {
		o.t.Fatalf("Take(%d, %v): %v lies beside a block of %d bytes", class, deny, got, of)
	}
	o.hold(got.p, size, row)
}

// need asks the pool for another block: what it answers is chapter 6's.
func (o *owner) need(order int, row *numbers) {
	o.t.Helper()
	if at, grew, e := o.p.Need(order, row.below(2) == 0); e == api.OK {
		if grew {
			o.regions++
		}
		o.hold(at, 4096<<order, row)
	}
}

// hold fills a live block with bytes, and remembers them.
func (o *owner) hold(p, size uint64, row *numbers) {
	o.t.Helper()
	piece := []byte{byte(row.below(256)), byte(row.below(256)), byte(p / 16)}
	data := bytes.Repeat(piece, int(size))[:size]
	if e := o.p.Space().Write(p, data); e != api.OK {
		o.t.Fatalf("the block at %d is not committed: %v", p, e)
	}
	o.live = append(o.live, block{p, size, data})
}

func (o *owner) give(i int) {
	o.t.Helper()
	b := o.live[i]
	give := func() api.Errno { return o.s.Give(b.p) }
	if b.size >= 4096 {
		order := 0
		for 4096<<order < b.size {
			order++
		}
		give = func() api.Errno { return o.p.Give(b.p, order) }
	}
	if e := give(); e != api.OK {
		o.t.Fatalf("a live block of %d bytes at %d can't be given back: %v", b.size, b.p, e)
	}
	if e := give(); e != api.EINVAL {
		o.t.Fatalf("a block that was given back is so once more: %v", e)
	}
	o.live = append(o.live[:i:i], o.live[i+1:]...)
}

// check: the live cells are just those handed out and not given back; each keeps its bytes; slab pages are just the pages with live cells.
func (o *owner) check() {
	o.t.Helper()
	sizes := map[uint64]uint64{}
	for _, b := range o.live {
		got, e := o.p.Space().Read(b.p, b.size)
		if e != api.OK || !bytes.Equal(got, b.data) {
			o.t.Fatalf("the live block of %d bytes at %d does not hold what was written", b.size, b.p)
		}
		if b.size < 4096 {
			sizes[b.p] = b.size
		}
	}
	for p := o.c.Base; p < o.end(); p += 16 {
		if got := o.s.Size(p); got != sizes[p] {
			o.t.Fatalf("Size(%d): %d, not %d", p, got, sizes[p])
		}
	}
	for number := range o.p.Map().Pages() {
		page, _ := o.p.Map().At(number)
		_, of := o.covered(o.c.Base+4096*uint64(number), 4096)
		if is := 0 < of && of < 4096; is != (page.Kind == api.PageSlab) || is && sizeOf(page.Class) != of {
			o.t.Fatalf("page %d: %+v, and its blocks have %d bytes", number, page, of)
		}
	}
}

func (o *owner) call(row *numbers) {
	o.t.Helper()
	switch kind := row.below(20); {
	case kind == 0:
		o.regions -= o.p.Trim()
	case kind == 1:
		o.need(row.below(o.c.Order+1), row)
	case kind < 12 || len(o.live) == 0:
		o.take(max(row.below(8), row.below(8)), row.below(3) == 0, row)
	default:
		o.give(row.below(len(o.live)))
	}
}

// P7.5: behind long rows of calls, and when all is given back.
func TestWhatFollows(t *testing.T) {
	for seed := range 40 {
		row := numbers(seed)
		o := newOwner(t, api.Config{Base: 1 << 20, Limit: 1 + seed%5, Order: seed % 4})
		for range 250 {
			o.call(&row)
			o.check()
		}
		for len(o.live) > 0 {
			o.give(row.below(len(o.live)))
		}
		o.check()
		if o.p.Trim(); o.p.Space().Regions() != 0 {
			t.Errorf("seed %d: all is given back, and regions are left", seed)
		}
	}
}

// P7.5: the same of each class alone, till no more fits.
func TestWhatFollowsOfOne(t *testing.T) {
	for class := range 8 {
		row := numbers(class)
		o := newOwner(t, api.Config{Base: 1 << 20, Limit: 2, Order: 1})
		for range 4*countOf(class) + 3 {
			o.take(class, row.below(2) == 0, &row)
		}
		for range 4 * countOf(class) {
			o.take(class, false, &row)
		}
		o.check()
		if len(o.live) != 4*countOf(class) {
			t.Errorf("class %d: %d cells", class, len(o.live))
		}
		for range 6 * countOf(class) {
			if n := len(o.live); n > 0 && row.below(2) == 0 {
				o.give(row.below(n))
			} else {
				o.take(class, true, &row)
			}
		}
		o.check()
	}
}
