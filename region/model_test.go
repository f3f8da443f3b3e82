package region_test

import (
	"bytes"
	"slices"
	"testing"

	"croft/api"
	"croft/region"
)

// model is a pool by the chapter's words: the free blocks stand on plain lists of pages, and what map and pairs must say is told by these and the live ones.
type model struct {
	c       api.Config
	regions int
	lists   [][]int     // first pages of the free blocks, order by order
	live    map[int]int // for each live block's first page its order
}

func newModel(c api.Config) *model {
	return &model{c: c, lists: make([][]int, c.Order+1), live: map[int]int{}}
}

// power is 2^n, by doubling.
func power(n int) int {
	p := 1
	for range n {
		p *= 2
	}
	return p
}

// regionBytes is R.
func regionBytes(c api.Config) int { return 4096 * power(c.Order) }

func (m *model) address(page int) uint64 { return m.c.Base + 4096*uint64(page) }

func (m *model) push(page, order int) {
	m.lists[order] = append([]int{page}, m.lists[order]...)
}

// remove takes a page off a list, and says whether it stood there.
func (m *model) remove(page, order int) bool {
	i := slices.Index(m.lists[order], page)
	if i >= 0 {
		m.lists[order] = append(slices.Clone(m.lists[order][:i]), m.lists[order][i+1:]...)
	}
	return i >= 0
}

// take tells the first page of a block that is live then, -1 if there is none.
func (m *model) take(order int) int {
	for j := order; j <= m.c.Order; j++ {
		if len(m.lists[j]) == 0 {
			continue
		}
		page := m.lists[j][0]
		m.remove(page, j)
		for ; j > order; j-- {
			m.push(page+power(j-1), j-1)
		}
		m.live[page] = order
		return page
	}
	return -1
}

// release makes a block free, joined with its other halves as far as they are free.
func (m *model) release(page, order int) {
	for order < m.c.Order {
		lower := page - page%power(order+1)
		if !m.remove(2*lower+power(order)-page, order) {
			break
		}
		page = lower
		order++
	}
	m.push(page, order)
}

// need is P6.3.
func (m *model) need(order int, deny bool) needed {
	if order < 0 || order > m.c.Order {
		return needed{0, false, api.EINVAL}
	}
	if page := m.take(order); page >= 0 {
		return needed{m.address(page), false, api.OK}
	}
	if deny || m.regions == m.c.Limit {
		return needed{0, false, api.ENOMEM}
	}
	m.release(m.regions*power(m.c.Order), m.c.Order)
	m.regions++
	return needed{m.address(m.take(order)), true, api.OK}
}

// give is P6.4.
func (m *model) give(at uint64, order int) api.Errno {
	for page, is := range m.live {
		if m.address(page) == at && is == order {
			delete(m.live, page)
			m.release(page, order)
			return api.OK
		}
	}
	return api.EINVAL
}

// trim is P6.5.
func (m *model) trim() int {
	gone := 0
	for m.remove((m.regions-1)*power(m.c.Order), m.c.Order) {
		m.regions--
		gone++
	}
	return gone
}

// pages are what the map must say.
func (m *model) pages() []api.Page {
	list := make([]api.Page, m.regions*power(m.c.Order))
	lay := func(page, order, kind int) {
		for i := range power(order) {
			list[page+i] = api.Page{Kind: kind + min(i, 1), Order: order, Next: -1, Prev: -1, First: -1}
		}
	}
	for order, free := range m.lists {
		for _, page := range free {
			lay(page, order, api.PageFree)
		}
	}
	for page, order := range m.live {
		lay(page, order, api.PageBig)
	}
	return list
}

// pairs are the words of the pair bits: true where just one half is free.
func (m *model) pairs() [][]uint64 {
	words := make([][]uint64, m.c.Order)
	for order := range words {
		pairs := m.regions * power(m.c.Order) / power(order+1)
		words[order] = make([]uint64, (pairs+63)/64)
		for _, page := range m.lists[order] {
			number := page / power(order+1)
			words[order][number/64] ^= 1 << (number % 64)
		}
	}
	return words
}

// free are the addresses on the list of an order.
func (m *model) free(order int) []uint64 {
	var list []uint64
	for _, page := range m.lists[order] {
		list = append(list, m.address(page))
	}
	return list
}

// needed is what Need answers.
type needed struct {
	at   uint64
	grew bool
	e    api.Errno
}

// both is a pool beside its model: each call is done on the two, and must answer one thing.
type both struct {
	t    *testing.T
	p    *region.Pool
	w    *model
	held map[uint64][]byte // what was written into live blocks
}

func newPool(t *testing.T, c api.Config) *region.Pool {
	t.Helper()
	p, e := region.New(c)
	if p == nil || e != api.OK {
		t.Fatalf("New(%+v): %v, %v", c, p, e)
	}
	return p
}

func newBoth(t *testing.T, c api.Config) *both {
	t.Helper()
	return &both{t, newPool(t, c), newModel(c), map[uint64][]byte{}}
}

func ask(p *region.Pool, order int, deny bool) needed {
	at, grew, e := p.Need(order, deny)
	return needed{at, grew, e}
}

func (b *both) need(order int, deny bool) needed {
	b.t.Helper()
	got, want := ask(b.p, order, deny), b.w.need(order, deny)
	if got != want {
		b.t.Fatalf("Need(%d, %v): %v, not %v", order, deny, got, want)
	}
	if got.e == api.OK {
		b.mark(got.at, order)
	}
	return got
}

// needs asks for blocks of those orders, none denied.
func (b *both) needs(orders ...int) {
	b.t.Helper()
	for _, order := range orders {
		b.want("Need", b.need(order, false).e, api.OK)
	}
}

// mark fills a live block with bytes that tell it from others, and remembers them.
func (b *both) mark(at uint64, order int) {
	b.t.Helper()
	data := make([]byte, 4096*power(order))
	for i := range data {
		data[i] = byte(at/4096) + byte(i) + byte(len(b.held)) + 1
	}
	b.want("Write", b.p.Space().Write(at, data), api.OK)
	b.held[at] = data
}

func (b *both) give(at uint64, order int) api.Errno {
	b.t.Helper()
	b.checkHeld()
	got, want := b.p.Give(at, order), b.w.give(at, order)
	if got != want {
		b.t.Fatalf("Give(%d, %d): %v, not %v", at, order, got, want)
	}
	if got == api.OK {
		delete(b.held, at)
	}
	return got
}

func (b *both) trim() int {
	b.t.Helper()
	got, want := b.p.Trim(), b.w.trim()
	if got != want {
		b.t.Fatalf("Trim: %d, not %d", got, want)
	}
	return got
}

func (b *both) want(call string, got, want api.Errno) {
	b.t.Helper()
	if got != want {
		b.t.Fatalf("%s: %v, not %v", call, got, want)
	}
}

// check holds all that the pool stands on against the model.
func (b *both) check() {
	b.t.Helper()
	s, m := b.p.Space(), b.p.Map()
	if s.Regions() != b.w.regions || s.End() != b.w.c.Base+uint64(b.w.regions*regionBytes(b.w.c)) {
		b.t.Fatalf("%d regions, End %d; not %d regions", s.Regions(), s.End(), b.w.regions)
	}
	pages, pairs := m.Plain()
	if want := b.w.pages(); m.Pages() != len(want) || !slices.Equal(pages, want) {
		b.t.Fatalf("pages: %v, not %v", pages, want)
	}
	if want := b.w.pairs(); !slices.EqualFunc(pairs, want, slices.Equal[[]uint64]) {
		b.t.Fatalf("pairs: %x, not %x", pairs, want)
	}
	b.checkLists()
	b.checkHeld()
}

func (b *both) checkLists() {
	b.t.Helper()
	heads := b.p.Buddy().Heads()
	if len(heads) != b.w.c.Order+1 {
		b.t.Fatalf("Heads: %v", heads)
	}
	for order := range b.w.lists {
		want := b.w.free(order)
		if got := b.p.Buddy().Free(order); !slices.Equal(got, want) {
			b.t.Fatalf("Free(%d): %v, not %v", order, got, want)
		}
		if first := append(want, 0)[0]; heads[order] != first {
			b.t.Fatalf("Heads: %v, not %d for the order %d", heads, first, order)
		}
	}
}

// checkHeld: each live block holds what was written into it.
func (b *both) checkHeld() {
	b.t.Helper()
	for at, data := range b.held {
		if got, e := b.p.Space().Read(at, uint64(len(data))); e != api.OK || !bytes.Equal(got, data) {
			b.t.Fatalf("the live block at %d does not hold what was written: %v", at, e)
		}
	}
}

// numbers gives the same long row of numbers each time.
type numbers uint64

func (n *numbers) below(end int) int {
	*n = *n*6364136223846793005 + 1442695040888963407
	return int(uint64(*n) >> 33 % uint64(end))
}

// place tells an address and an order, most often those of a live block.
func (b *both) place(row *numbers) (uint64, int) {
	var live []int
	for page := range b.w.live {
		live = append(live, page)
	}
	slices.Sort(live)
	if len(live) > 0 && row.below(6) > 0 {
		page := live[row.below(len(live))]
		return b.w.address(page), b.w.live[page]
	}
	page := row.below(b.w.regions*power(b.w.c.Order)+3) - 1
	return b.w.address(page) + uint64(row.below(2)*row.below(4096)), row.below(b.w.c.Order+3) - 1
}

// call does one of the calls, with arguments close to those that may be.
func (b *both) call(row *numbers) {
	b.t.Helper()
	switch at, order := b.place(row); row.below(10) {
	case 0:
		b.trim()
	case 1, 2:
		b.need(row.below(b.w.c.Order+3)-1, row.below(2) == 0)
	case 3, 4, 5:
		b.need(row.below(min(2, b.w.c.Order+1)), row.below(3) == 0)
	default:
		b.give(at, order)
	}
}

// P6.3 to P6.7: long rows of calls, held against the model behind each.
func TestAgainstModel(t *testing.T) {
	for seed := range 60 {
		row := numbers(seed)
		b := newBoth(t, api.Config{Base: 1 << 20, Limit: 1 + seed%4, Order: seed % 5})
		for range 250 {
			b.call(&row)
			b.check()
		}
	}
}

// P6.3 to P6.7: the same of the greatest spaces, with regions of every size.
func TestGreatOnesAgainstModel(t *testing.T) {
	for order := range 9 {
		row := numbers(order)
		limit := min(64, 1024>>order)
		c := api.Config{Base: 1<<63 - uint64(limit*4096<<order), Limit: limit, Order: order}
		b := newBoth(t, c)
		for range limit {
			b.need(max(0, order-row.below(3)), false)
		}
		for range 15 {
			for range 20 {
				b.call(&row)
			}
			b.check()
		}
	}
}
