package slab_test

import (
	"bytes"
	"maps"
	"reflect"
	"slices"
	"testing"

	"croft/api"
	"croft/region"
	"croft/slab"
)

// model is a slab by the chapter's words: cells and pages stand in plain lists. It has a pool of its own, on which it does just the calls that the chapter says, and into whose memory it writes the words that the chapter says.
type model struct {
	c      api.Config
	p      *region.Pool
	sheets map[int]*sheet // the slab pages
	lists  [8][]int       // the partial lists
}

// sheet is a slab page.
type sheet struct {
	class int
	free  []int // the cells on its list
	live  map[int]bool
}

func newModel(t *testing.T, c api.Config) *model {
	return &model{c: c, p: newPool(t, c), sheets: map[int]*sheet{}}
}

// sizeOf is a class's size, by doubling.
func sizeOf(class int) uint64 {
	size := uint64(16)
	for range class {
		size += size
	}
	return size
}

// countOf is how many cells a page of a class has.
func countOf(class int) int { return int(4096 / sizeOf(class)) }

func (m *model) address(page, class, cell int) uint64 {
	return m.c.Base + 4096*uint64(page) + sizeOf(class)*uint64(cell)
}

// write is a word at an address, the lowest byte first.
func (m *model) write(p, word uint64) {
	for i := range uint64(8) {
		m.p.Space().SetByte(p+i, byte(word%256))
		word /= 256
	}
}

// take is P7.2.
func (m *model) take(class int, deny bool) taken {
	if class < 0 || class > 7 {
		return taken{0, false, api.EINVAL}
	}
	grew := false
	if len(m.lists[class]) == 0 {
		at, more, e := m.p.Need(0, deny)
		if e != api.OK {
			return taken{0, false, e}
		}
		m.lay(int(at-m.c.Base)/4096, class)
		grew = more
	}
	page := m.lists[class][0]
	its := m.sheets[page]
	cell := its.free[0]
	its.free = its.free[1:]
	its.live[cell] = true
	if len(its.free) == 0 {
		m.off(page, class)
	}
	return taken{m.address(page, class, cell), grew, api.OK}
}

// lay makes a page a slab page without live cells.
func (m *model) lay(page, class int) {
	its := &sheet{class: class, live: map[int]bool{}}
	for cell := range countOf(class) {
		its.free = append(its.free, cell)
		next := m.address(page, class, cell+1)
		if cell+1 == countOf(class) {
			next = 0
		}
		m.write(m.address(page, class, cell), next)
	}
	m.sheets[page] = its
	m.on(page, class)
}

func (m *model) on(page, class int) {
	m.lists[class] = append([]int{page}, m.lists[class]...)
}

func (m *model) off(page, class int) {
	i := slices.Index(m.lists[class], page)
	m.lists[class] = append(slices.Clone(m.lists[class][:i]), m.lists[class][i+1:]...)
}

// find tells the page and the number of the live cell at p, -1 if there is none.
func (m *model) find(p uint64) (int, int) {
	for page, its := range m.sheets {
		for cell := range its.live {
			if m.address(page, its.class, cell) == p {
				return page, cell
			}
		}
	}
	return -1, -1
}

// give is P7.3.
func (m *model) give(p uint64) api.Errno {
	page, cell := m.find(p)
	if page < 0 {
		return api.EINVAL
	}
	its := m.sheets[page]
	delete(its.live, cell)
	if len(its.live) == 0 {
		m.off(page, its.class)
		delete(m.sheets, page)
		return m.p.Give(m.address(page, 0, 0), 0)
	}
	first := uint64(0)
	if len(its.free) > 0 {
		first = m.address(page, its.class, its.free[0])
	} else {
		m.on(page, its.class)
	}
	m.write(p, first)
	its.free = append([]int{cell}, its.free...)
	return api.OK
}

// size is P7.4.
func (m *model) size(p uint64) uint64 {
	if page, _ := m.find(p); page >= 0 {
		return sizeOf(m.sheets[page].class)
	}
	return 0
}

func (m *model) partial() []int {
	var heads []int
	for _, list := range m.lists {
		heads = append(heads, append(list, -1)[0])
	}
	return heads
}

// pages are what the map must say: where there is no slab page, what the pool alone says.
func (m *model) pages() []api.Page {
	pages, _ := m.p.Map().Plain()
	for page, its := range m.sheets {
		is := api.Page{Kind: api.PageSlab, Class: its.class, Live: len(its.live), Next: -1, Prev: -1, First: append(its.free, -1)[0]}
		for cell := range its.live {
			is.Bits[cell/64] |= 1 << (cell % 64)
		}
		list := m.lists[its.class]
		if i := slices.Index(list, page); i >= 0 {
			is.Next = append(list, -1)[i+1]
			is.Prev = append([]int{-1}, list...)[i]
		}
		pages[page] = is
	}
	return pages
}

// live are the addresses of the live cells, rising.
func (m *model) live() []uint64 {
	var list []uint64
	for page, its := range m.sheets {
		for cell := range its.live {
			list = append(list, m.address(page, its.class, cell))
		}
	}
	slices.Sort(list)
	return list
}

// taken is what Take answers.
type taken struct {
	p    uint64
	grew bool
	e    api.Errno
}

// plain is all that a slab and its pool tell.
type plain struct {
	regions int
	bytes   []byte
	pages   []api.Page
	pairs   [][]uint64
	heads   []uint64
	partial []int
}

func tell(p *region.Pool, partial []int, c api.Config) plain {
	d := plain{regions: p.Space().Regions(), heads: p.Buddy().Heads(), partial: partial}
	d.bytes, _ = p.Space().Read(c.Base, p.Space().End()-c.Base)
	d.pages, d.pairs = p.Map().Plain()
	return d
}

func same(one, other plain) bool { return reflect.DeepEqual(one, other) }

func newPool(t *testing.T, c api.Config) *region.Pool {
	t.Helper()
	p, e := region.New(c)
	if p == nil || e != api.OK {
		t.Fatalf("region.New(%+v): %v", c, e)
	}
	return p
}

// both is a slab beside its model: each call is done on the two, and must answer one thing.
type both struct {
	t      *testing.T
	p      *region.Pool
	s      *slab.Slab
	w      *model
	blocks map[uint64]int // the pool's live blocks that are no slab pages, with their orders
}

func newBoth(t *testing.T, c api.Config) *both {
	t.Helper()
	p := newPool(t, c)
	return &both{t, p, slab.New(p), newModel(t, c), map[uint64]int{}}
}

func ask(s *slab.Slab, class int, deny bool) taken {
	p, grew, e := s.Take(class, deny)
	return taken{p, grew, e}
}

func (b *both) take(class int, deny bool) taken {
	b.t.Helper()
	got, want := ask(b.s, class, deny), b.w.take(class, deny)
	if got != want {
		b.t.Fatalf("Take(%d, %v): %v, not %v", class, deny, got, want)
	}
	return got
}

// takes takes so many cells of a class, none denied, and tells where they are.
func (b *both) takes(class, count int) []uint64 {
	b.t.Helper()
	var list []uint64
	for range count {
		got := b.take(class, false)
		b.want("Take", got.e, api.OK)
		list = append(list, got.p)
	}
	return list
}

func (b *both) give(p uint64) api.Errno {
	b.t.Helper()
	got, want := b.s.Give(p), b.w.give(p)
	if got != want {
		b.t.Fatalf("Give(%d): %v, not %v", p, got, want)
	}
	return got
}

// gives gives live cells back.
func (b *both) gives(list ...uint64) {
	b.t.Helper()
	for _, p := range list {
		b.want("Give", b.give(p), api.OK)
	}
}

// need and back are the pool's own calls, on blocks that are no slab pages.
func (b *both) need(order int, deny bool) uint64 {
	b.t.Helper()
	at, grew, e := b.p.Need(order, deny)
	if p, g, f := b.w.p.Need(order, deny); p != at || g != grew || f != e {
		b.t.Fatalf("Need(%d, %v): %d, %v, %v; not %d, %v, %v", order, deny, at, grew, e, p, g, f)
	}
	if e == api.OK {
		b.blocks[at] = order
	}
	return at
}

func (b *both) back(at uint64) {
	b.t.Helper()
	b.want("the pool's Give", b.p.Give(at, b.blocks[at]), api.OK)
	b.w.p.Give(at, b.blocks[at])
	delete(b.blocks, at)
}

func (b *both) trim() int {
	b.t.Helper()
	got, want := b.p.Trim(), b.w.p.Trim()
	if got != want {
		b.t.Fatalf("Trim: %d, not %d", got, want)
	}
	return got
}

// fill is a user's write.
func (b *both) fill(p, n uint64, v byte) {
	b.t.Helper()
	b.want("Fill", b.p.Space().Fill(p, n, v), api.OK)
	b.w.p.Space().Fill(p, n, v)
}

func (b *both) want(call string, got, want api.Errno) {
	b.t.Helper()
	if got != want {
		b.t.Fatalf("%s: %v, not %v", call, got, want)
	}
}

func (b *both) wantTake(class int, deny bool, want taken) {
	b.t.Helper()
	if got := b.take(class, deny); got != want {
		b.t.Errorf("Take(%d, %v): %v, not %v", class, deny, got, want)
	}
	b.check()
}

func (b *both) wantGive(p uint64, want api.Errno) {
	b.t.Helper()
	b.want("Give", b.give(p), want)
	b.check()
}

func (b *both) wantSize(p, want uint64) {
	b.t.Helper()
	if got := b.s.Size(p); got != want {
		b.t.Errorf("Size(%d): %d, not %d", p, got, want)
	}
}

// wantHead asks for the head of one class's list; all other lists are empty.
func (b *both) wantHead(class, page int) {
	b.t.Helper()
	want := []int{-1, -1, -1, -1, -1, -1, -1, -1}
	want[class] = page
	if got := b.s.Partial(); !slices.Equal(got, want) {
		b.t.Errorf("Partial: %v, not %v", got, want)
	}
}

func (b *both) wantPage(page int, want api.Page) {
	b.t.Helper()
	if got, _ := b.p.Map().At(page); got != want {
		b.t.Errorf("page %d: %+v, not %+v", page, got, want)
	}
}

func (b *both) wantWord(p, want uint64) {
	b.t.Helper()
	if got, e := b.p.Space().Word(p); got != want || e != api.OK {
		b.t.Errorf("the word at %d: %d, %v; not %d", p, got, e, want)
	}
}

// check holds all that can be seen against the model: every byte, every page, all lists.
func (b *both) check() {
	b.t.Helper()
	got, want := tell(b.p, b.s.Partial(), b.w.c), tell(b.w.p, b.w.partial(), b.w.c)
	want.pages = b.w.pages()
	if !slices.Equal(got.partial, want.partial) {
		b.t.Fatalf("Partial: %v, not %v", got.partial, want.partial)
	}
	for page := range min(len(got.pages), len(want.pages)) {
		if got.pages[page] != want.pages[page] {
			b.t.Fatalf("page %d: %+v, not %+v", page, got.pages[page], want.pages[page])
		}
	}
	if !bytes.Equal(got.bytes, want.bytes) {
		b.t.Fatalf("the memory is not as it should be")
	}
	if !same(got, want) {
		b.t.Fatalf("what the pool tells is not as it should be")
	}
}

// refused does a call that must be refused, and asks that nothing is changed.
func (b *both) refused(call func() api.Errno, want api.Errno) {
	b.t.Helper()
	ahead := tell(b.p, b.s.Partial(), b.w.c)
	b.want("a call that is refused", call(), want)
	if !same(tell(b.p, b.s.Partial(), b.w.c), ahead) {
		b.t.Fatalf("a call that is refused with %v has changed something", want)
	}
	b.check()
}

func (b *both) refusedTake(class int, deny bool, want api.Errno) {
	b.t.Helper()
	b.refused(func() api.Errno {
		got := ask(b.s, class, deny)
		if got.p != 0 || got.grew {
			b.t.Errorf("Take(%d, %v): %v", class, deny, got)
		}
		return got.e
	}, want)
}

// refusedGive asks that at p no live cell begins: Give is refused, Size is 0.
func (b *both) refusedGive(p uint64) {
	b.t.Helper()
	b.refused(func() api.Errno { return b.s.Give(p) }, api.EINVAL)
	b.refused(func() api.Errno { b.wantSize(p, 0); return api.OK }, api.OK)
}

// numbers gives the same long row of numbers each time.
type numbers uint64

func (n *numbers) below(end int) int {
	*n = *n*6364136223846793005 + 1442695040888963407
	return int(uint64(*n) >> 33 % uint64(end))
}

// place tells an address, most often that of a live cell, else one close to those that may be.
func (b *both) place(row *numbers) uint64 {
	if live := b.w.live(); len(live) > 0 && row.below(5) > 0 {
		return live[row.below(len(live))]
	}
	end := int(b.p.Space().End() - b.w.c.Base)
	p := b.w.c.Base - 4096 + uint64(row.below(end+8192))
	return p - p%[]uint64{1, 16, 256, 2048, 4096}[row.below(5)]
}

// call does one of the calls, or a user's write into a live cell.
func (b *both) call(row *numbers) {
	b.t.Helper()
	switch p := b.place(row); row.below(12) {
	case 0:
		b.trim()
	case 1:
		b.need(row.below(b.w.c.Order+1), row.below(2) == 0)
	case 2, 3:
		if blocks := slices.Sorted(maps.Keys(b.blocks)); len(blocks) > 0 {
			b.back(blocks[row.below(len(blocks))])
		}
	case 4:
		if size := b.w.size(p); size > 0 {
			b.fill(p, size, byte(row.below(256)))
		}
	case 5, 6, 7:
		b.take(row.below(10)-1, row.below(2) == 0)
	case 8:
		b.takesGreat(row)
	default:
		b.give(p)
		b.wantSize(p, b.w.size(p))
	}
}

// takesGreat takes several cells of a great size, so that pages come to be full.
func (b *both) takesGreat(row *numbers) {
	b.t.Helper()
	class, deny := 4+row.below(4), row.below(3) == 0
	for range row.below(8) {
		b.take(class, deny)
	}
}

// P7.2 to P7.6: long rows of calls, held against the model behind each.
func TestAgainstModel(t *testing.T) {
	for seed := range 60 {
		row := numbers(seed)
		b := newBoth(t, api.Config{Base: 1 << 20, Limit: 1 + seed%5, Order: seed % 4})
		for range 250 {
			b.call(&row)
			b.check()
		}
	}
}

// P7.2 to P7.6: the same where all cells are of one class, which come and go by many at once.
func TestOneClassAgainstModel(t *testing.T) {
	for seed := range 40 {
		row, class := numbers(seed), seed%8
		b := newBoth(t, api.Config{Base: 1<<63 - 16*4096, Limit: 4, Order: 2})
		for range 12 {
			for range row.below(3 * countOf(class)) {
				b.take(class, row.below(4) == 0)
			}
			b.check()
			live := b.w.live()
			for range row.below(len(live) + 1) {
				i := row.below(len(live))
				b.gives(live[i])
				live = append(live[:i:i], live[i+1:]...)
			}
			b.check()
		}
	}
}
