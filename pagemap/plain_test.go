package pagemap_test

import (
	"math"
	"slices"
	"testing"

	"croft/api"
	"croft/pagemap"
)

// plain is a map as plain data, with its order.
type plain struct {
	order int
	pages []api.Page
	pairs [][]uint64
}

func plainOf(order int, m *pagemap.Map) plain {
	pages, pairs := m.Plain()
	return plain{order, pages, pairs}
}

func (p plain) open() (*pagemap.Map, api.Errno) { return pagemap.Open(p.order, p.pages, p.pairs) }

func (p plain) equal(q plain) bool {
	return p.order == q.order && slices.Equal(p.pages, q.pages) && slices.EqualFunc(p.pairs, q.pairs, slices.Equal[[]uint64])
}

// mixed is a map with pages of every kind and bits of every order.
func mixed(t *testing.T) *both {
	b := newBoth(t, 3, 3)
	b.run(0, 1, api.PageFree)
	b.run(2, 1, api.PageBig)
	b.slab(4, 0)
	b.slab(5, 7)
	b.own(4, 0, true)
	b.own(4, 64, true)
	b.own(4, 255, true)
	b.own(5, 1, true)
	b.chain(4, 5, -1)
	b.chain(5, -1, 4)
	b.first(4, 200)
	b.run(16, 3, api.PageFree)
	for k := range 3 {
		b.flip(k, 0)
		b.flip(k, 23)
	}
	b.check()
	return b
}

// reopened is the map of its plain data, which must be taken.
func (b *both) reopened() *both {
	b.t.Helper()
	m, e := plainOf(b.w.order, b.m).open()
	if e != api.OK || m == nil {
		b.t.Fatalf("Open of Plain: %v", e)
	}
	w := &model{order: b.w.order, pages: slices.Clone(b.w.pages), set: map[pairName]bool{}}
	for name := range b.w.set {
		w.set[name] = true
	}
	return &both{b.t, m, w}
}

// P4.6, P4.7: a map of Plain answers as the map does, and goes on as it does.
func TestOpenOfPlain(t *testing.T) {
	for order := range 9 {
		for _, regions := range []int{0, 1, 3, 1024 >> order} {
			row := numbers(order)
			b := newBoth(t, order, regions)
			for page := range b.m.Pages() {
				b.slab(page, page%8)
				b.own(page, page%2, true)
				b.chain(page, b.m.Pages()-1, page-1)
				b.flip(page%(order+1), page)
			}
			again := b.reopened()
			again.check()
			for range 30 {
				again.call(&row)
			}
			again.check()
			b.check()
		}
	}
	b := mixed(t).reopened()
	b.check()
	b.grow()
	b.check()
}

// P4.6: Plain of a map without regions, and Open of it; nil and an empty list are one.
func TestPlainOfNothing(t *testing.T) {
	for order := range 9 {
		p := plainOf(order, pagemap.New(order))
		if len(p.pages) != 0 || len(p.pairs) != order {
			t.Errorf("order %d: %v", order, p)
		}
		for _, words := range p.pairs {
			if len(words) != 0 {
				t.Errorf("order %d: %v", order, p)
			}
		}
		for _, pages := range [][]api.Page{nil, {}} {
			for _, words := range [][]uint64{nil, {}} {
				m, e := pagemap.Open(order, pages, slices.Repeat([][]uint64{words}, order))
				if e != api.OK || m.Pages() != 0 {
					t.Fatalf("Open(%d) of no pages: %v", order, e)
				}
				m.Grow()
				checkAt(t, m, 0, blockPage(api.PageBig, order))
			}
		}
	}
	if _, e := pagemap.Open(0, nil, [][]uint64{}); e != api.OK {
		t.Errorf("Open(0): %v", e)
	}
}

// P4.6: the words of pairs, where they fill a word, are one short of it, one past it.
func TestWordsOfPairs(t *testing.T) {
	for regions, want := range map[int]int{63: 1, 64: 1, 65: 2} {
		p := plainOf(1, newBoth(t, 1, regions).m)
		if len(p.pairs[0]) != want {
			t.Errorf("%d pairs: %d words", regions, len(p.pairs[0]))
		}
		if _, e := p.open(); e != api.OK {
			t.Errorf("%d pairs: Open: %v", regions, e)
		}
		p.pairs[0] = append(p.pairs[0], 0)
		if _, e := p.open(); e != api.EFORM {
			t.Errorf("%d pairs, a word more: %v", regions, e)
		}
		p.pairs[0] = p.pairs[0][:want-1]
		if _, e := p.open(); e != api.EFORM {
			t.Errorf("%d pairs, a word less: %v", regions, e)
		}
	}
}

// checkRefused holds that data is refused, with no map, and is not changed.
func checkRefused(t *testing.T, what string, p plain) {
	t.Helper()
	before := plain{p.order, slices.Clone(p.pages), nil}
	for _, words := range p.pairs {
		before.pairs = append(before.pairs, slices.Clone(words))
	}
	if m, e := p.open(); m != nil || e != api.EFORM {
		t.Errorf("Open, %s: %v, %v", what, m, e)
	}
	if !p.equal(before) {
		t.Errorf("Open, %s: what was handed in is changed", what)
	}
}

// P4.6: lengths and the order, each one out of range.
func TestOpenRefusesLengths(t *testing.T) {
	sound := func() plain { return plainOf(3, mixed(t).m) }
	for what, change := range map[string]func(p *plain){
		"a page less":            func(p *plain) { p.pages = p.pages[:23] },
		"a page more":            func(p *plain) { p.pages = append(p.pages, blockPage(api.PageBig, 0)) },
		"no pages":               func(p *plain) { p.pages = nil },
		"half a region less":     func(p *plain) { p.pages = p.pages[:20] },
		"an order less":          func(p *plain) { p.order = 2 },
		"an order more":          func(p *plain) { p.order = 4 },
		"order 0":                func(p *plain) { p.order = 0 },
		"order -1":               func(p *plain) { p.order = -1 },
		"order 9":                func(p *plain) { p.order = 9 },
		"order 64":               func(p *plain) { p.order = 64 },
		"the least order":        func(p *plain) { p.order = math.MinInt },
		"the greatest order":     func(p *plain) { p.order = math.MaxInt },
		"a list of pairs less":   func(p *plain) { p.pairs = p.pairs[:2] },
		"a list of pairs more":   func(p *plain) { p.pairs = append(p.pairs, []uint64{0}) },
		"an empty list more":     func(p *plain) { p.pairs = append(p.pairs, nil) },
		"no pairs":               func(p *plain) { p.pairs = nil },
		"no words of order 0":    func(p *plain) { p.pairs[0] = nil },
		"no words of order 2":    func(p *plain) { p.pairs[2] = []uint64{} },
		"two words of order 0":   func(p *plain) { p.pairs[0] = append(p.pairs[0], 0) },
		"two words of order 2":   func(p *plain) { p.pairs[2] = []uint64{0, 0} },
		"orders of pairs missed": func(p *plain) { p.pairs[1] = nil },
	} {
		p := sound()
		if _, e := p.open(); e != api.OK {
			t.Fatalf("sound: %v", e)
		}
		change(&p)
		checkRefused(t, what, p)
	}
	for _, order := range []int{math.MinInt, -64, -1, 9, 10, 63, 64, math.MaxInt} {
		checkRefused(t, "an order alone", plain{order: order})
	}
	checkRefused(t, "nine lists", plain{order: 9, pairs: make([][]uint64, 9)})
}

// P4.6, Limits: MaxPages pages are taken, a region more is not.
func TestOpenOfTooManyPages(t *testing.T) {
	for order := range 9 {
		p := plain{order: order}
		for len(p.pages) < 1024 {
			p.pages = append(p.pages, blockPage(api.PageBig, 0))
		}
		for k := range order {
			p.pairs = append(p.pairs, make([]uint64, (512>>k+63)/64))
		}
		m, e := p.open()
		if e != api.OK || m.Pages() != 1024 {
			t.Fatalf("order %d: %v", order, e)
		}
		more := plain{order: order, pages: append(p.pages, slices.Repeat(p.pages[:1], power(order))...)}
		for k := range order {
			pairs := len(more.pages) / power(k+1)
			more.pairs = append(more.pairs, make([]uint64, (pairs+63)/64))
		}
		checkRefused(t, "a region past MaxPages", more)
	}
}

// fields are a page's numbers, each with its range in a map of order 3 with 24 pages.
func fields(p *api.Page) map[string]struct {
	at              *int
	least, greatest int
} {
	type field = struct {
		at              *int
		least, greatest int
	}
	return map[string]field{
		"Kind":  {&p.Kind, 0, 4},
		"Order": {&p.Order, 0, 3},
		"Class": {&p.Class, 0, 7},
		"Live":  {&p.Live, 0, 256},
		"Next":  {&p.Next, -1, 23},
		"Prev":  {&p.Prev, -1, 23},
		"First": {&p.First, -1, 255},
	}
}

// P4.6: each single field of a page, at both ends of its range and one past them, on pages of every kind.
func TestOpenOfFields(t *testing.T) {
	b := mixed(t)
	for _, page := range []int{0, 1, 2, 3, 4, 5, 16, 23} {
		p := plainOf(3, b.m)
		was := p.pages[page]
		for name, field := range fields(&p.pages[page]) {
			for _, wrong := range []int{field.least - 1, field.greatest + 1, math.MinInt, math.MaxInt, -1 << 32, 1 << 32} {
				*field.at = wrong
				checkRefused(t, name, p)
			}
			for right := field.least; right <= field.greatest; right++ {
				*field.at = right
				m, e := p.open()
				if e != api.OK {
					t.Fatalf("page %d, %s %d: %v", page, name, right, e)
				}
				if !plainOf(3, m).equal(p) {
					t.Fatalf("page %d, %s %d: not kept", page, name, right)
				}
			}
			p.pages[page] = was
		}
	}
}

// P4.6: data in range is taken, sound or not, and each call speaks of what it was given.
func TestOpenOfUnsoundData(t *testing.T) {
	wild := api.Page{Kind: api.PageSlab, Order: 1, Class: 7, Live: 256, Next: 3, Prev: 3, First: 255, Bits: [4]uint64{1 << 63, 5, 0, math.MaxUint64}}
	odd := api.Page{Kind: api.PageFree, Order: 2, Class: 3, Live: 9, Next: 1, Prev: 0, First: 7, Bits: [4]uint64{0, 0, 0, 1}}
	p := plain{2, []api.Page{wild, odd, {}, wild}, [][]uint64{{3}, {1}}}
	m, e := p.open()
	if e != api.OK {
		t.Fatal(e)
	}
	b := &both{t, m, &model{2, slices.Clone(p.pages), map[pairName]bool{{0, 0}: true, {0, 1}: true, {1, 0}: true}}}
	b.check()
	if b.m.Head(0) != 0 || b.m.Head(1) != 0 || b.m.Head(2) != 2 || b.m.Head(3) != 2 {
		t.Errorf("Head: %d %d %d %d", b.m.Head(0), b.m.Head(1), b.m.Head(2), b.m.Head(3))
	}
	for page := -1; page < 5; page++ {
		for _, cell := range []int{-1, 0, 1, 2, 63, 64, 66, 255} {
			b.own(page, cell, false)
			b.own(page, cell, true)
			b.check()
		}
		b.first(page, 2)
		b.first(page, 1)
		b.chain(page, 4, 0)
		b.chain(page, 2, 0)
		b.check()
	}
	b.run(2, 1, api.PageBig)
	b.check()
	b.slab(1, 0)
	b.check()
	b.shrink(1)
	b.grow()
	b.check()
}

// P4.6: bits beyond the last pair count as 0: they are not told, and stand on no pair that comes.
func TestBitsBeyondTheLastPair(t *testing.T) {
	for order := 1; order < 9; order++ {
		p := plain{order: order}
		for range 2 * power(order) {
			p.pages = append(p.pages, blockPage(api.PageBig, 0))
		}
		want := newModel(order)
		want.pages = p.pages
		for k := range order {
			pairs := 2 * power(order-k-1)
			p.pairs = append(p.pairs, slices.Repeat([]uint64{math.MaxUint64}, (pairs+63)/64))
			for number := range pairs {
				want.set[pairName{k, number}] = true
			}
		}
		m, e := p.open()
		if e != api.OK {
			t.Fatalf("order %d: %v", order, e)
		}
		b := (&both{t, m, want}).reopened()
		b.check()
		b.grow()
		b.check()
	}
	m, _ := pagemap.Open(1, []api.Page{{}, {}}, [][]uint64{{6}})
	if m.Pair(0, 0) || plainOf(1, m).pairs[0][0] != 0 {
		t.Errorf("words {6} of one pair: %x", plainOf(1, m).pairs)
	}
}

// P4.7: Open of Plain is refused just where a page names one that is gone; Shrink leaves the names.
func TestOpenOfPlainWithPagesGone(t *testing.T) {
	for _, row := range []struct {
		next, prev int
		e          api.Errno
	}{
		{-1, -1, api.OK}, {3, 0, api.OK}, {3, 3, api.OK}, {4, -1, api.EFORM}, {-1, 4, api.EFORM}, {7, 7, api.EFORM}, {0, 7, api.EFORM}, {7, 0, api.EFORM},
	} {
		b := newBoth(t, 2, 2)
		b.slab(1, 5)
		b.chain(1, row.next, row.prev)
		b.reopened().check()
		b.shrink(1)
		b.check()
		if m, e := plainOf(2, b.m).open(); e != row.e || (m == nil) != (e != api.OK) {
			t.Errorf("Chain(1, %d, %d), Shrink(1): Open: %v, not %v", row.next, row.prev, e, row.e)
		}
		b.grow()
		b.check()
		b.reopened().check()
	}
}

// R4: what is handed to Open is neither changed nor kept, spare room too.
func TestOpenKeepsNothing(t *testing.T) {
	p := plainOf(3, mixed(t).m)
	mark := api.Page{Kind: 77}
	pages := append(slices.Clone(p.pages), mark, mark)
	pairs := make([][]uint64, 4)
	for k := range 3 {
		pairs[k] = append(slices.Clone(p.pairs[k]), 78)[:1]
	}
	pairs[3] = []uint64{79}
	m, e := pagemap.Open(3, pages[:24], pairs[:3])
	if e != api.OK {
		t.Fatal(e)
	}
	for range 2 {
		m.Grow()
		m.Slab(m.Pages()-1, 2)
		m.Flip(0, m.Pages()-1)
	}
	m.Run(0, 3, api.PageFree)
	m.Flip(0, 0)
	if !slices.Equal(pages[:24], p.pages) || pages[24] != mark || pages[25] != mark {
		t.Error("the pages that were handed in are changed")
	}
	for k := range 3 {
		if pairs[k][0] != p.pairs[k][0] || pairs[k][:2][1] != 78 {
			t.Errorf("the words of order %d that were handed in are changed", k)
		}
	}
	if len(pairs[3]) != 1 || pairs[3][0] != 79 {
		t.Error("the lists that were handed in are changed")
	}
	before := plainOf(3, m)
	for i := range pages {
		pages[i] = mark
	}
	for k := range 3 {
		pairs[k][0] = 12345
	}
	pairs[0] = nil
	if !plainOf(3, m).equal(before) {
		t.Error("what was handed in is kept")
	}
}

// R4: what Plain tells is new memory, spare room too, and no two lists of it share any.
func TestPlainIsNew(t *testing.T) {
	b := mixed(t)
	pages, pairs := b.m.Plain()
	other := plainOf(3, b.m)
	pairs = pairs[:cap(pairs)]
	for i := range pages[:cap(pages)] {
		pages[:cap(pages)][i] = api.Page{Kind: 77}
	}
	for k, words := range pairs {
		words = words[:cap(words)]
		for i := range words {
			if k < 3 && i == 0 && words[i] != other.pairs[k][0] {
				t.Errorf("the words of order %d share memory with others", k)
			}
			words[i] = 78
		}
	}
	b.check()
	for k := range pairs {
		pairs[k] = nil
	}
	b.check()
	b.grow()
	b.check()
	if p := plainOf(3, b.m); !slices.Equal(p.pages[:24], other.pages) || other.equal(p) {
		t.Error("what Plain told changes with the map")
	}
}

// R5: two maps know nothing of one another.
func TestTwoMaps(t *testing.T) {
	one := mixed(t)
	two := one.reopened()
	three := newBoth(t, 3, 3)
	row := numbers(11)
	for range 200 {
		two.call(&row)
		one.check()
		three.check()
	}
	two.check()
}
