package pagemap_test

import (
	"math"
	"slices"
	"testing"

	"croft/api"
	"croft/pagemap"
)

// pairName names a pair: its order, and its number among those of that order.
type pairName struct{ order, number int }

// model is a map by the chapter's words: its pages one by one, and the pairs whose bit is 1.
type model struct {
	order int
	pages []api.Page
	set   map[pairName]bool
}

func newModel(order int) *model {
	return &model{order: min(max(order, 0), 8), set: map[pairName]bool{}}
}

// power is 2^n, by doubling.
func power(n int) int {
	p := 1
	for range n {
		p *= 2
	}
	return p
}

// blockPage is a page of a block of whole pages.
func blockPage(kind, order int) api.Page {
	return api.Page{Kind: kind, Order: order, Next: -1, Prev: -1, First: -1}
}

// slabPage is a slab page as Slab makes it.
func slabPage(class int) api.Page {
	return api.Page{Kind: api.PageSlab, Class: class, Next: -1, Prev: -1, First: -1}
}

func (m *model) grow() {
	if len(m.pages)+power(m.order) > 1024 {
		return
	}
	m.pages = append(m.pages, blockPage(api.PageBig, m.order))
	for range power(m.order) - 1 {
		m.pages = append(m.pages, blockPage(api.PageBigRest, m.order))
	}
}

func (m *model) shrink(n int) api.Errno {
	if n < 0 || n > len(m.pages)/power(m.order) {
		return api.EINVAL
	}
	m.pages = slices.Clone(m.pages[:len(m.pages)-n*power(m.order)])
	for name := range m.set {
		if name.number*power(name.order+1) >= len(m.pages) {
			delete(m.set, name)
		}
	}
	return api.OK
}

func (m *model) there(page int) bool { return page >= 0 && page < len(m.pages) }

func (m *model) head(page int) int {
	if !m.there(page) {
		return -1
	}
	size := power(m.pages[page].Order)
	for head := page; ; head-- {
		if head%size == 0 {
			return head
		}
	}
}

func (m *model) run(page, order, kind int) api.Errno {
	if kind != api.PageFree && kind != api.PageBig || order < 0 || order > m.order {
		return api.EINVAL
	}
	size := power(order)
	if page < 0 || page%size != 0 || page > len(m.pages)-size {
		return api.EINVAL
	}
	m.pages[page] = blockPage(kind, order)
	for i := 1; i < size; i++ {
		m.pages[page+i] = blockPage(map[int]int{api.PageFree: api.PageFreeRest, api.PageBig: api.PageBigRest}[kind], order)
	}
	return api.OK
}

func (m *model) slab(page, class int) api.Errno {
	if !m.there(page) || class < 0 || class > 7 {
		return api.EINVAL
	}
	m.pages[page] = slabPage(class)
	return api.OK
}

func (m *model) isSlab(page int) bool { return m.there(page) && m.pages[page].Kind == api.PageSlab }

func (m *model) hasCell(page, cell int) bool {
	return cell >= 0 && cell < 4096/(16*power(m.pages[page].Class))
}

func (m *model) own(page, cell int, live bool) api.Errno {
	if !m.isSlab(page) || !m.hasCell(page, cell) {
		return api.EINVAL
	}
	word, bit := &m.pages[page].Bits[cell/64], uint64(1)<<(cell%64)
	switch {
	case live && *word&bit == 0:
		*word += bit
		m.pages[page].Live++
	case !live && *word&bit != 0:
		*word -= bit
		m.pages[page].Live--
	default:
		return api.EINVAL
	}
	return api.OK
}

func (m *model) chain(page, next, prev int) api.Errno {
	if !m.isSlab(page) || next != -1 && !m.there(next) || prev != -1 && !m.there(prev) {
		return api.EINVAL
	}
	m.pages[page].Next, m.pages[page].Prev = next, prev
	return api.OK
}

func (m *model) first(page, cell int) api.Errno {
	if !m.isSlab(page) || cell != -1 && !m.hasCell(page, cell) {
		return api.EINVAL
	}
	m.pages[page].First = cell
	return api.OK
}

func (m *model) pair(order, page int) bool {
	return order >= 0 && order < m.order && m.there(page) && m.set[pairName{order, page / power(order+1)}]
}

func (m *model) flip(order, page int) (bool, api.Errno) {
	if order < 0 || order >= m.order || !m.there(page) {
		return false, api.EINVAL
	}
	name := pairName{order, page / power(order+1)}
	if m.set[name] {
		delete(m.set, name)
	} else {
		m.set[name] = true
	}
	return m.set[name], api.OK
}

// words are the pairs' words, order by order.
func (m *model) words() [][]uint64 {
	lists := make([][]uint64, m.order)
	for order := range lists {
		pairs := len(m.pages) / power(order+1)
		for at := 0; at < pairs; at += 64 {
			lists[order] = append(lists[order], 0)
		}
	}
	for name := range m.set {
		lists[name.order][name.number/64] |= 1 << (name.number % 64)
	}
	return lists
}

// both is a map beside its model: each call is done on the two, and must answer one thing.
type both struct {
	t *testing.T
	m *pagemap.Map
	w *model
}

// newBoth makes a map of so many regions.
func newBoth(t *testing.T, order, regions int) *both {
	b := &both{t, pagemap.New(order), newModel(order)}
	for range regions {
		b.grow()
	}
	return b
}

func (b *both) same(call string, args []int, got, want api.Errno) api.Errno {
	b.t.Helper()
	if got != want {
		b.t.Fatalf("%s%v: %v, not %v", call, args, got, want)
	}
	return got
}

func (b *both) grow() {
	b.m.Grow()
	b.w.grow()
}

func (b *both) shrink(n int) api.Errno {
	b.t.Helper()
	return b.same("Shrink", []int{n}, b.m.Shrink(n), b.w.shrink(n))
}

func (b *both) run(page, order, kind int) api.Errno {
	b.t.Helper()
	return b.same("Run", []int{page, order, kind}, b.m.Run(page, order, kind), b.w.run(page, order, kind))
}

func (b *both) slab(page, class int) api.Errno {
	b.t.Helper()
	return b.same("Slab", []int{page, class}, b.m.Slab(page, class), b.w.slab(page, class))
}

func (b *both) own(page, cell int, live bool) api.Errno {
	b.t.Helper()
	return b.same("Own", []int{page, cell}, b.m.Own(page, cell, live), b.w.own(page, cell, live))
}

func (b *both) chain(page, next, prev int) api.Errno {
	b.t.Helper()
	return b.same("Chain", []int{page, next, prev}, b.m.Chain(page, next, prev), b.w.chain(page, next, prev))
}

func (b *both) first(page, cell int) api.Errno {
	b.t.Helper()
	return b.same("First", []int{page, cell}, b.m.First(page, cell), b.w.first(page, cell))
}

func (b *both) flip(order, page int) api.Errno {
	b.t.Helper()
	got, e := b.m.Flip(order, page)
	want, e2 := b.w.flip(order, page)
	if got != want {
		b.t.Fatalf("Flip(%d, %d): %v, not %v", order, page, got, want)
	}
	return b.same("Flip", []int{order, page}, e, e2)
}

// check holds all that the map tells against the model.
func (b *both) check() {
	b.t.Helper()
	count := len(b.w.pages)
	if got := b.m.Pages(); got != count {
		b.t.Fatalf("Pages: %d, not %d", got, count)
	}
	b.checkPage(math.MinInt)
	b.checkPage(math.MaxInt)
	for page := -2; page < count+3; page++ {
		b.checkPage(page)
	}
	pages, pairs := b.m.Plain()
	if !slices.Equal(pages, b.w.pages) {
		b.t.Fatalf("Plain's pages: %v, not %v", pages, b.w.pages)
	}
	if want := b.w.words(); !slices.EqualFunc(pairs, want, slices.Equal[[]uint64]) {
		b.t.Fatalf("Plain's pairs: %x, not %x", pairs, want)
	}
}

func (b *both) checkPage(page int) {
	b.t.Helper()
	want := api.Page{}
	if b.w.there(page) {
		want = b.w.pages[page]
	}
	if got, ok := b.m.At(page); got != want || ok != b.w.there(page) {
		b.t.Fatalf("At(%d): %v, %v, not %v", page, got, ok, want)
	}
	if got, want := b.m.Head(page), b.w.head(page); got != want {
		b.t.Fatalf("Head(%d): %d, not %d", page, got, want)
	}
	for order := -2; order < b.w.order+3; order++ {
		if got, want := b.m.Pair(order, page), b.w.pair(order, page); got != want {
			b.t.Fatalf("Pair(%d, %d): %v, not %v", order, page, got, want)
		}
	}
}

// numbers gives the same long row of numbers each time.
type numbers uint64

func (n *numbers) below(end int) int {
	*n = *n*6364136223846793005 + 1442695040888963407
	return int(uint64(*n) >> 33 % uint64(end))
}

// call does one of the calls, with arguments close to those that may be.
func (b *both) call(row *numbers) {
	b.t.Helper()
	near := func(end int) int { return row.below(end+3) - 1 }
	count, order := len(b.w.pages), b.w.order
	switch page := near(count); row.below(12) {
	case 0:
		b.grow()
	case 1:
		b.shrink(near(2))
	case 2, 3:
		size := near(order)
		if row.below(4) > 0 && size > 0 {
			page -= page % power(min(size, 8))
		}
		b.run(page, size, row.below(5))
	case 4, 5:
		b.slab(page, near(8))
	case 6, 7, 8:
		b.own(page, near([]int{2, 4, 256}[row.below(3)]), row.below(3) > 0)
	case 9:
		b.chain(page, near(count)-1, near(count)-1)
	case 10:
		b.first(page, near(256)-1)
	default:
		b.flip(near(order), page)
	}
}

// P4.1 to P4.7: long rows of calls, held against the model behind each.
func TestMapAgainstModel(t *testing.T) {
	for seed := range 40 {
		row := numbers(seed)
		b := newBoth(t, seed%5, 1+seed%3)
		for range 300 {
			b.call(&row)
			b.check()
		}
	}
}

// P4.1 to P4.7: the same, of the greatest maps.
func TestGreatMapsAgainstModel(t *testing.T) {
	for order := range 9 {
		row := numbers(order)
		b := newBoth(t, order, 1024>>order)
		for range 40 {
			for range 20 {
				b.call(&row)
			}
			b.check()
		}
	}
}
