package buddy_test

import (
	"bytes"
	"math"
	"slices"
	"testing"

	"croft/api"
	"croft/buddy"
	"croft/mem"
	"croft/pagemap"
)

// pairName names a pair: its order, and its number among those of that order.
type pairName struct{ order, number int }

// model is a buddy by the chapter's words, over bytes and pages of its own: the lists stand beside the bytes, and their links are written into these.
type model struct {
	c     api.Config
	bytes []byte // the space's
	pages []api.Page
	set   map[pairName]bool
	lists [][]uint64
}

// power is 2^n, by doubling.
func power(n int) int {
	p := 1
	for range n {
		p *= 2
	}
	return p
}

// regionBytes is R.
func regionBytes(c api.Config) int { return 4096 * power(c.Order) }

// blockPages are the pages of a block, its first one and the others.
func blockPages(kind, order int) []api.Page {
	list := make([]api.Page, power(order))
	for i := range list {
		list[i] = api.Page{Kind: kind + min(i, 1), Order: order, Next: -1, Prev: -1, First: -1}
	}
	return list
}

func (m *model) setWord(p, v uint64) {
	for i := range uint64(8) {
		m.bytes[p-m.c.Base+i] = byte(v)
		v /= 256
	}
}

func (m *model) push(order int, p uint64) {
	list := m.lists[order]
	m.setWord(p, 0)
	m.setWord(p+8, 0)
	if len(list) > 0 {
		m.setWord(p, list[0])
		m.setWord(list[0]+8, p)
	}
	m.lists[order] = append([]uint64{p}, list...)
}

// remove takes an address off a list on which it stands.
func (m *model) remove(order int, p uint64) {
	list := m.lists[order]
	i := slices.Index(list, p)
	ahead, behind := uint64(0), uint64(0)
	if i > 0 {
		ahead = list[i-1]
	}
	if i+1 < len(list) {
		behind = list[i+1]
	}
	if ahead != 0 {
		m.setWord(ahead, behind)
	}
	if behind != 0 {
		m.setWord(behind+8, ahead)
	}
	m.lists[order] = slices.Delete(slices.Clone(list), i, i+1)
}

func (m *model) run(page, order, kind int) { copy(m.pages[page:], blockPages(kind, order)) }

func (m *model) address(page int) uint64 { return m.c.Base + 4096*uint64(page) }

func (m *model) enter(page, order int) {
	m.run(page, order, api.PageFree)
	m.push(order, m.address(page))
}

// turn tells the bit as it is then.
func (m *model) turn(page, order int) bool {
	if order == m.c.Order {
		return false
	}
	name := pairName{order, page / power(order+1)}
	m.set[name] = !m.set[name]
	return m.set[name]
}

// number tells the page that begins at p, -1 if there is none in the map and in the space.
func (m *model) number(p uint64) int {
	for page := range m.pages {
		if m.address(page) == p && page*4096 < len(m.bytes) {
			return page
		}
	}
	return -1
}

// live tells the first page of the live block of that order at p, -1 if there is none.
func (m *model) live(p uint64, order int) int {
	page := m.number(p)
	if page < 0 || m.pages[page].Kind != api.PageBig || m.pages[page].Order != order || page%power(order) != 0 {
		return -1
	}
	return page
}

func (m *model) giveUpUpperHalf(page, order int) {
	upper := page + power(order-1)
	m.enter(upper, order-1)
	m.turn(upper, order-1)
}

// take is P5.2.
func (m *model) take(order int) (uint64, api.Errno) {
	if order < 0 || order > m.c.Order {
		return 0, api.EINVAL
	}
	for j := order; j <= m.c.Order; j++ {
		if len(m.lists[j]) == 0 {
			continue
		}
		p := m.lists[j][0]
		page := m.number(p)
		m.remove(j, p)
		m.turn(page, j)
		for i := j; i > order; i-- {
			m.giveUpUpperHalf(page, i)
		}
		m.run(page, order, api.PageBig)
		return p, api.OK
	}
	return 0, api.ENOMEM
}

// give is P5.3.
func (m *model) give(p uint64, order int) api.Errno {
	page := m.live(p, order)
	if page < 0 {
		return api.EINVAL
	}
	for k := order; ; k++ {
		bit := m.turn(page, k)
		if k == m.c.Order || bit {
			m.enter(page, k)
			return api.OK
		}
		lower := page - page%power(k+1)
		m.remove(k, m.address(2*lower+power(k)-page))
		page = lower
	}
}

// shrink is P5.4.
func (m *model) shrink(p uint64, from, to int) api.Errno {
	page := m.live(p, from)
	if to < 0 || to > from || page < 0 {
		return api.EINVAL
	}
	for i := from; i > to; i-- {
		m.giveUpUpperHalf(page, i)
	}
	m.run(page, to, api.PageBig)
	return api.OK
}

// top tells the address of the top block, 0 where P5.5 answers ESTATE for both calls.
func (m *model) top() uint64 {
	if len(m.bytes) == 0 || len(m.pages)*4096 != len(m.bytes) {
		return 0
	}
	return m.c.Base + uint64(len(m.bytes)-regionBytes(m.c))
}

// feed is P5.5.
func (m *model) feed() api.Errno {
	if p := m.top(); p == 0 || m.give(p, m.c.Order) != api.OK {
		return api.ESTATE
	}
	return api.OK
}

// pull is P5.5.
func (m *model) pull() api.Errno {
	p := m.top()
	if p == 0 || !slices.Contains(m.lists[m.c.Order], p) {
		return api.ESTATE
	}
	m.remove(m.c.Order, p)
	m.run(m.number(p), m.c.Order, api.PageBig)
	return api.OK
}

// words are the pairs' words, order by order.
func (m *model) words() [][]uint64 {
	lists := make([][]uint64, m.c.Order)
	for order := range lists {
		pairs := len(m.pages) / power(order+1)
		lists[order] = make([]uint64, (pairs+63)/64)
	}
	for name, bit := range m.set {
		if bit {
			lists[name.order][name.number/64] |= 1 << (name.number % 64)
		}
	}
	return lists
}

// both is a buddy beside its model: each call is done on the two, and must answer one thing.
type both struct {
	t *testing.T
	s *mem.Space
	m *pagemap.Map
	b *buddy.Buddy
	w *model
}

func newSpace(t *testing.T, c api.Config) *mem.Space {
	t.Helper()
	s, e := mem.New(c)
	if e != api.OK {
		t.Fatalf("mem.New(%v): %v", c, e)
	}
	return s
}

// newBoth makes a buddy with so many regions fed in.
func newBoth(t *testing.T, c api.Config, regions int) *both {
	t.Helper()
	s, m := newSpace(t, c), pagemap.New(c.Order)
	b := &both{t, s, m, buddy.New(c, s, m), &model{c: c, set: map[pairName]bool{}, lists: make([][]uint64, c.Order+1)}}
	for range regions {
		b.come()
	}
	return b
}

// commit, grow, decommit and cutMap bring space and map out of step, and into it again.
func (b *both) commit() {
	b.s.Commit(false)
	b.w.bytes = append(b.w.bytes, make([]byte, regionBytes(b.w.c))...)
}

func (b *both) grow() {
	b.m.Grow()
	b.w.pages = append(b.w.pages, blockPages(api.PageBig, b.w.c.Order)...)
}

func (b *both) decommit() {
	b.s.Decommit(1)
	b.w.bytes = b.w.bytes[:len(b.w.bytes)-regionBytes(b.w.c)]
}

func (b *both) cutMap() {
	b.m.Shrink(1)
	b.w.pages = b.w.pages[:len(b.w.pages)-power(b.w.c.Order)]
	for name := range b.w.set {
		if name.number*power(name.order+1) >= len(b.w.pages) {
			delete(b.w.set, name)
		}
	}
}

// come lets a region come, and feeds it in.
func (b *both) come() {
	b.t.Helper()
	b.commit()
	b.grow()
	b.want("Feed", b.feed(), api.OK)
}

// leave pulls the top region out, and lets it go.
func (b *both) leave() {
	b.t.Helper()
	b.want("Pull", b.pull(), api.OK)
	b.cutMap()
	b.decommit()
}

func (b *both) want(call string, got, want api.Errno) {
	b.t.Helper()
	if got != want {
		b.t.Fatalf("%s: %v, not %v", call, got, want)
	}
}

func (b *both) same(call string, args []int, got, want api.Errno) api.Errno {
	b.t.Helper()
	if got != want {
		b.t.Fatalf("%s%v: %v, not %v", call, args, got, want)
	}
	b.checkLists()
	return got
}

func (b *both) feed() api.Errno {
	b.t.Helper()
	return b.same("Feed", nil, b.b.Feed(), b.w.feed())
}

func (b *both) pull() api.Errno {
	b.t.Helper()
	return b.same("Pull", nil, b.b.Pull(), b.w.pull())
}

func (b *both) take(order int) (uint64, api.Errno) {
	b.t.Helper()
	p, e := b.b.Take(order)
	q, want := b.w.take(order)
	if p != q {
		b.t.Fatalf("Take(%d): %d, not %d", order, p, q)
	}
	return p, b.same("Take", []int{order}, e, want)
}

func (b *both) give(p uint64, order int) api.Errno {
	b.t.Helper()
	return b.same("Give", []int{int(p), order}, b.b.Give(p, order), b.w.give(p, order))
}

func (b *both) shrink(p uint64, from, to int) api.Errno {
	b.t.Helper()
	return b.same("Shrink", []int{int(p), from, to}, b.b.Shrink(p, from, to), b.w.shrink(p, from, to))
}

// write writes into a live block, as its user.
func (b *both) write(p uint64, data []byte) {
	b.t.Helper()
	b.want("Write", b.s.Write(p, data), api.OK)
	copy(b.w.bytes[p-b.w.c.Base:], data)
}

// mark fills a live block with bytes that tell it from others.
func (b *both) mark(p uint64, order int) {
	b.t.Helper()
	data := make([]byte, 4096*power(order))
	for i := range data {
		data[i] = byte(p/4096) + byte(i) + 1
	}
	b.write(p, data)
}

// checkLists holds all lists against the model.
func (b *both) checkLists() {
	b.t.Helper()
	heads := b.b.Heads()
	if len(heads) != b.w.c.Order+1 {
		b.t.Fatalf("Heads: %v", heads)
	}
	for order, want := range b.w.lists {
		if got := b.b.Free(order); !slices.Equal(got, want) {
			b.t.Fatalf("Free(%d): %v, not %v", order, got, want)
		}
		if first := append(slices.Clone(want), 0)[0]; heads[order] != first {
			b.t.Fatalf("Heads: %v, not %d for the order %d", heads, first, order)
		}
	}
	for _, order := range []int{math.MinInt, -1, b.w.c.Order + 1, 64, math.MaxInt} {
		if got := b.b.Free(order); len(got) != 0 {
			b.t.Fatalf("Free(%d): %v", order, got)
		}
	}
}

// check holds all against the model: the lists, the pages, the pairs, the bytes.
func (b *both) check() {
	b.t.Helper()
	b.checkLists()
	b.checkMap()
	b.checkBytes()
}

func (b *both) checkMap() {
	b.t.Helper()
	pages, pairs := b.m.Plain()
	if !slices.Equal(pages, b.w.pages) {
		b.t.Fatalf("pages: %v, not %v", pages, b.w.pages)
	}
	if want := b.w.words(); !slices.EqualFunc(pairs, want, slices.Equal[[]uint64]) {
		b.t.Fatalf("pairs: %x, not %x", pairs, want)
	}
}

func (b *both) checkBytes() {
	b.t.Helper()
	got, e := b.s.Read(b.w.c.Base, uint64(len(b.w.bytes)))
	if e != api.OK || !bytes.Equal(got, b.w.bytes) {
		b.t.Fatalf("the memory is not as it should be")
	}
}

// numbers gives the same long row of numbers each time.
type numbers uint64

func (n *numbers) below(end int) int {
	*n = *n*6364136223846793005 + 1442695040888963407
	return int(uint64(*n) >> 33 % uint64(end))
}

// liveOnes are the first pages that the model's map says are live blocks'.
func (m *model) liveOnes() []int {
	var list []int
	for page, is := range m.pages {
		if is.Kind == api.PageBig {
			list = append(list, page)
		}
	}
	return list
}

// place tells an address and an order, most often those of a live block.
func (b *both) place(row *numbers) (uint64, int) {
	near := func(end int) int { return row.below(end+3) - 1 }
	if live := b.w.liveOnes(); len(live) > 0 && row.below(5) > 0 {
		page := live[row.below(len(live))]
		return b.w.address(page), b.w.pages[page].Order
	}
	return b.w.address(near(len(b.w.pages))) + uint64(row.below(2)*row.below(4096)), near(b.w.c.Order)
}

// call does one of the calls, with arguments close to those that may be.
func (b *both) call(row *numbers) {
	b.t.Helper()
	near := func(end int) int { return row.below(end+3) - 1 }
	switch p, order := b.place(row); row.below(12) {
	case 0:
		if len(b.w.bytes) < b.w.c.Limit*regionBytes(b.w.c) {
			b.come()
		}
	case 1:
		if b.pull() == api.OK {
			b.want("Feed", b.feed(), api.OK)
			b.leave()
		}
	case 2:
		b.feed()
	case 3, 4, 5, 6:
		size := near(b.w.c.Order)
		if row.below(2) > 0 {
			size = row.below(2)
		}
		if p, e := b.take(size); e == api.OK {
			b.mark(p, size)
		}
	case 7:
		b.shrink(p, order, near(order+1))
	case 8:
		b.shrink(p, order, 0)
	default:
		b.give(p, order)
	}
}

// P5.2 to P5.8: long rows of calls, held against the model behind each.
func TestAgainstModel(t *testing.T) {
	for seed := range 60 {
		row := numbers(seed)
		c := api.Config{Base: 1 << 20, Limit: 1 + seed%4, Order: seed % 5}
		b := newBoth(t, c, seed%2)
		for range 250 {
			b.call(&row)
			b.check()
		}
	}
}

// P5.2 to P5.8: the same of the greatest spaces, with regions of every size.
func TestGreatOnesAgainstModel(t *testing.T) {
	for order := range 9 {
		row := numbers(order)
		limit := min(64, 1024>>order)
		c := api.Config{Base: 1<<63 - uint64(limit*4096<<order), Limit: limit, Order: order}
		b := newBoth(t, c, limit-1)
		for range 15 {
			for range 30 {
				b.call(&row)
			}
			b.check()
		}
	}
}
