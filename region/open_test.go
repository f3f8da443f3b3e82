package region_test

import (
	"math"
	"reflect"
	"slices"
	"testing"

	"croft/api"
	"croft/region"
)

// plain is a pool as plain data.
type plain struct {
	c       api.Config
	regions int
	bytes   []byte
	pages   []api.Page
	pairs   [][]uint64
	heads   []uint64
}

// tell is what a pool's space, map and buddy tell.
func tell(p *region.Pool, c api.Config) plain {
	d := plain{c: c, regions: p.Space().Regions(), heads: p.Buddy().Heads()}
	d.bytes, _ = p.Space().Read(c.Base, uint64(d.regions*regionBytes(c)))
	d.pages, d.pairs = p.Map().Plain()
	return d
}

// clone is the same in memory of its own, with so much spare room behind each list.
func (d plain) clone(room int) plain {
	d.bytes = append(make([]byte, 0, len(d.bytes)+room), d.bytes...)
	d.pages = append(make([]api.Page, 0, len(d.pages)+room), d.pages...)
	d.heads = append(make([]uint64, 0, len(d.heads)+room), d.heads...)
	lists := make([][]uint64, 0, len(d.pairs)+room)
	for _, words := range d.pairs {
		lists = append(lists, append(make([]uint64, 0, len(words)+room), words...))
	}
	d.pairs = lists
	return d
}

func (d plain) open() (*region.Pool, api.Errno) {
	return region.Open(d.c, d.regions, d.bytes, d.pages, d.pairs, d.heads)
}

func (d plain) wantOpen(t *testing.T) *region.Pool {
	t.Helper()
	p, e := d.open()
	if p == nil || e != api.OK {
		t.Fatalf("Open(%+v, %d): %v, %v", d.c, d.regions, p, e)
	}
	return p
}

func (d plain) wantRefused(t *testing.T, what string, want api.Errno) {
	t.Helper()
	if p, e := d.open(); p != nil || e != want {
		t.Errorf("Open, %s: %v, %v, not %v", what, p, e, want)
	}
}

// used is what a pool of two regions tells whose blocks are live in part.
func used(t *testing.T, c api.Config) plain {
	t.Helper()
	b := newBoth(t, c)
	b.needs(0, c.Order)
	b.give(c.Base, 0)
	b.needs(max(c.Order-1, 0))
	return tell(b.p, c)
}

// unfit are Configs that may not be, of each kind.
func unfit() []api.Config {
	return []api.Config{
		{}, {Base: 65536}, {Base: 65536, Limit: -1}, {Base: 4096, Limit: 65}, {Base: 65536, Limit: math.MinInt}, {Base: 65536, Limit: math.MaxInt}, {Base: 65536, Limit: 1<<32 + 1},
		{Base: 1 << 20, Limit: 1, Order: -1}, {Base: 1 << 21, Limit: 1, Order: 9}, {Base: 1 << 20, Limit: 1, Order: 64}, {Base: 1 << 20, Limit: 1, Order: math.MinInt}, {Base: 1 << 20, Limit: 1, Order: math.MaxInt},
		{Base: 1 << 20, Limit: 5, Order: 8}, {Base: 1 << 20, Limit: 33, Order: 5}, {Base: 1 << 20, Limit: 9, Order: 7}, {Base: 1 << 20, Limit: 64, Order: 8},
		{Base: 0, Limit: 1}, {Base: 0, Limit: 4, Order: 8}, {Base: 1, Limit: 1}, {Base: 4095, Limit: 1}, {Base: 4097, Limit: 1},
		{Base: 4096, Limit: 2, Order: 1}, {Base: 1<<20 + 4096, Limit: 1, Order: 8}, {Base: 1 << 19, Limit: 1, Order: 8}, {Base: 65536 + 8, Limit: 1, Order: 1},
		{Base: 1 << 63, Limit: 1}, {Base: 1<<63 - 4096, Limit: 2}, {Base: 1<<63 - 3<<20, Limit: 4, Order: 8}, {Base: math.MaxUint64 - 4095, Limit: 1}, {Base: math.MaxUint64, Limit: 1},
	}
}

// fit are Configs that may be, those at the edges.
func fit() []api.Config {
	var list []api.Config
	for order := range 9 {
		size, limit := uint64(4096)<<order, min(64, 1024>>order)
		list = append(list,
			api.Config{Base: size, Limit: 1, Order: order}, api.Config{Base: 3 * size, Limit: limit, Order: order},
			api.Config{Base: 1<<63 - size, Limit: 1, Order: order}, api.Config{Base: 1<<63 - uint64(limit)*size, Limit: limit, Order: order})
	}
	return list
}

// empty is a pool without a region, as plain data.
func empty(c api.Config) plain {
	order := min(max(c.Order, 0), 8)
	return plain{c: c, pairs: make([][]uint64, order), heads: make([]uint64, order+1)}
}

// P6.1, P6.2: of a Config that may not be there is no pool, whatever else may be wrong.
func TestUnfit(t *testing.T) {
	for _, c := range unfit() {
		if p, e := region.New(c); p != nil || e != api.EINVAL {
			t.Errorf("New(%+v): %v, %v", c, p, e)
		}
		d := empty(c)
		d.wantRefused(t, "no region", api.EINVAL)
		for _, regions := range []int{math.MinInt, -1, 1, 65, math.MaxInt} {
			d.regions = regions
			d.wantRefused(t, "wrong regions", api.EINVAL)
		}
		plain{c: c}.wantRefused(t, "nothing", api.EINVAL)
		d = used(t, api.Config{Base: 1 << 20, Limit: 3, Order: 2})
		d.c = c
		d.wantRefused(t, "another's data", api.EINVAL)
	}
}

// P6.1, P6.2: a new pool, and one that is opened without a region, at the edges of what a Config may be.
func TestNew(t *testing.T) {
	for _, c := range fit() {
		for _, p := range []*region.Pool{newPool(t, c), empty(c).wantOpen(t)} {
			b := &both{t, p, newModel(c), nil}
			b.check()
			b.held = map[uint64][]byte{}
			b.wantTrim(0)
			b.wantNeed(c.Order, true, needed{0, false, api.ENOMEM})
			for i := range c.Limit {
				b.wantNeed(c.Order, false, needed{c.Base + uint64(i*regionBytes(c)), true, api.OK})
			}
			b.wantNeed(c.Order, false, needed{0, false, api.ENOMEM})
			b.wantGive(c.Base, c.Order, api.OK)
			b.wantNeed(0, true, needed{c.Base, false, api.OK})
		}
	}
}

// P6.1: Space, Map and Buddy tell the same object each time, and just what the pool works on.
func TestSame(t *testing.T) {
	c := api.Config{Base: 65536, Limit: 3, Order: 1}
	for _, p := range []*region.Pool{newPool(t, c), used(t, c).wantOpen(t)} {
		s, m, y := p.Space(), p.Map(), p.Buddy()
		if s == nil || m == nil || y == nil {
			t.Fatalf("no object: %v, %v, %v", s, m, y)
		}
		same := func() {
			t.Helper()
			if p.Space() != s || p.Map() != m || p.Buddy() != y {
				t.Error("another object")
			}
		}
		same()
		p.Trim()
		regions := s.Regions()
		at, _, _ := p.Need(1, false)
		same()
		if s.Regions() != regions+1 || m.Pages() != 2*regions+2 {
			t.Errorf("%d regions, %d pages", s.Regions(), m.Pages())
		}
		if page, _ := m.At(2 * regions); page.Kind != api.PageBig || page.Order != 1 {
			t.Errorf("page %d: %v", 2*regions, page)
		}
		p.Give(at, 1)
		if got := y.Free(1); len(got) == 0 || got[0] != at {
			t.Errorf("Free(1): %v", got)
		}
		p.Trim()
		p.Need(9, false)
		same()
	}
}

// P6.2: regions that may not be, and that are not what the lists say.
func TestOpenRegions(t *testing.T) {
	for _, order := range []int{0, 1, 2, 8} {
		c := api.Config{Base: 1 << 20, Limit: 3, Order: order}
		d := used(t, c)
		d.wantOpen(t)
		for _, regions := range []int{math.MinInt, -1 << 62, -1 << 55, -2, -1, 0, 1, 3, 4, 64, 1 << 32, 1 << 52, 1 << 60, 1 << 62, math.MaxInt} {
			if regions == d.regions {
				continue
			}
			wrong := d
			wrong.regions = regions
			wrong.wantRefused(t, "regions", api.EFORM)
			wrong = empty(c)
			wrong.regions = regions
			if regions != 0 {
				wrong.wantRefused(t, "regions, and no lists", api.EFORM)
			}
		}
	}
}

// P6.2: Limit regions may be; one more may not, though all lists fit it.
func TestOpenAtLimit(t *testing.T) {
	for order := range 9 {
		limit := min(64, 1024>>order)
		c := api.Config{Base: 1 << 20, Limit: limit, Order: order}
		b := newBoth(t, c)
		for range limit {
			b.need(order, false)
		}
		d := tell(b.p, c)
		b.p = d.wantOpen(t)
		b.check()
		b.wantNeed(0, false, needed{0, false, api.ENOMEM})
		b.wantGive(c.Base, order, api.OK)
		b.wantNeed(0, false, needed{c.Base, false, api.OK})
		d.c.Limit = limit - 1
		if limit > 1 {
			d.wantRefused(t, "one above Limit", api.EFORM)
		}
		d.c.Limit = 0
		d.wantRefused(t, "of no Limit", api.EINVAL)
	}
}

// P6.2: bytes, pages, pairs and heads that are too few and too many, by one and by a region's.
func TestOpenLengths(t *testing.T) {
	for _, order := range []int{0, 1, 3, 8} {
		d := used(t, api.Config{Base: 1 << 20, Limit: 4, Order: order})
		size, region := power(order), regionBytes(d.c)
		for _, n := range []int{0, 1, region, 2*region - 1, 2*region + 1, 2*region + 4096, 3 * region} {
			wrong := d
			wrong.bytes = make([]byte, n)
			wrong.wantRefused(t, "bytes", api.EFORM)
		}
		for _, n := range []int{0, size, 2*size - 1, 2*size + 1, 3 * size} {
			wrong := d
			wrong.pages = make([]api.Page, n)
			wrong.wantRefused(t, "pages", api.EFORM)
			wrong.bytes = make([]byte, 4096*n)
			wrong.wantRefused(t, "pages and bytes", api.EFORM)
		}
		for _, n := range []int{0, order, order + 2, 10} {
			wrong := d
			wrong.heads = make([]uint64, n)
			wrong.wantRefused(t, "heads", api.EFORM)
		}
		openWrongPairs(t, d)
	}
}

func openWrongPairs(t *testing.T, d plain) {
	t.Helper()
	wrong := d.clone(1)
	wrong.pairs = append(wrong.pairs, []uint64{0})
	wrong.wantRefused(t, "a list of pairs more", api.EFORM)
	wrong.pairs[d.c.Order] = nil
	wrong.wantRefused(t, "an empty list of pairs more", api.EFORM)
	for order := range d.c.Order {
		wrong = d.clone(1)
		wrong.pairs = slices.Delete(wrong.pairs, order, order+1)
		wrong.wantRefused(t, "a list of pairs fewer", api.EFORM)
		wrong = d.clone(1)
		wrong.pairs[order] = append(wrong.pairs[order], 0)
		wrong.wantRefused(t, "a word more", api.EFORM)
		wrong.pairs[order] = d.pairs[order][1:]
		wrong.wantRefused(t, "a word fewer", api.EFORM)
	}
}

// P6.2: pages that pagemap.Open refuses: a field out of range, by one and by much, on the first page, the last and one between.
func TestOpenPages(t *testing.T) {
	d := used(t, api.Config{Base: 1 << 20, Limit: 4, Order: 2})
	wrong := map[string][]int{
		"Kind": {-1, 5}, "Order": {-1, 3}, "Class": {-1, 8}, "Live": {-1, 257}, "Next": {-2, 8}, "Prev": {-2, 8}, "First": {-2, 256},
	}
	for field, values := range wrong {
		for _, value := range append(values, math.MinInt, math.MaxInt, 1<<32) {
			for _, page := range []int{0, 3, 7} {
				one := d.clone(0)
				reflect.ValueOf(&one.pages[page]).Elem().FieldByName(field).SetInt(int64(value))
				one.wantRefused(t, field, api.EFORM)
			}
		}
	}
}

// anyData is data in range, sound or not.
func anyData(c api.Config, regions int, row *numbers) plain {
	d := plain{c: c, regions: regions, bytes: make([]byte, regions*regionBytes(c)), pages: make([]api.Page, regions*power(c.Order)), pairs: [][]uint64{}}
	for i := range d.bytes {
		d.bytes[i] = byte(row.below(256))
	}
	for i := range d.pages {
		one := api.Page{Kind: row.below(5), Order: row.below(c.Order + 1), Class: row.below(8), Live: row.below(257), First: row.below(257) - 1}
		one.Next, one.Prev = row.below(len(d.pages)+1)-1, row.below(len(d.pages)+1)-1
		one.Bits = [4]uint64{uint64(row.below(1 << 30)), 0, uint64(row.below(1 << 30)), math.MaxUint64}
		d.pages[i] = one
	}
	for order := range c.Order {
		words := make([]uint64, (len(d.pages)/power(order+1)+63)/64)
		for i := range len(d.pages) / power(order+1) {
			words[i/64] |= uint64(row.below(2)) << (i % 64)
		}
		d.pairs = append(d.pairs, words)
	}
	for range c.Order + 1 {
		d.heads = append(d.heads, uint64(row.below(1<<30)))
	}
	return d
}

// P6.2: what stands in the lists is taken as it is, whatever it is.
func TestOpenTakesAny(t *testing.T) {
	row := numbers(3)
	for order := range 9 {
		for _, regions := range []int{0, 1, 2, min(64, 1024>>order)} {
			d := anyData(api.Config{Base: 1 << 20, Limit: min(64, 1024>>order), Order: order}, regions, &row)
			if got := tell(d.wantOpen(t), d.c); !reflect.DeepEqual(got, d) {
				t.Errorf("order %d, %d regions: another pool than the data tell", order, regions)
			}
		}
	}
}

// P6.6: what a pool tells is opened as one that answers as that one does, wherever it is told.
func TestOpenGoesOn(t *testing.T) {
	for seed := range 30 {
		row := numbers(seed)
		b := newBoth(t, api.Config{Base: 1 << 20, Limit: 1 + seed%4, Order: seed % 5})
		for range 150 {
			b.call(&row)
			b.p = tell(b.p, b.w.c).wantOpen(t)
			b.check()
		}
	}
}

// P6.6: the two go on side by side, and all that they tell stays the same.
func TestOpenBeside(t *testing.T) {
	for seed := range 20 {
		row := numbers(seed)
		b := newBoth(t, api.Config{Base: 1 << 20, Limit: 2 + seed%3, Order: seed % 4})
		for range 60 {
			b.call(&row)
		}
		other := tell(b.p, b.w.c).wantOpen(t)
		for range 100 {
			besideCall(b, other, &row)
			if !reflect.DeepEqual(tell(b.p, b.w.c), tell(other, b.w.c)) {
				t.Fatalf("seed %d: the two pools are not the same", seed)
			}
		}
	}
}

// besideCall does one call on a pool and on another one that stands as it does.
func besideCall(b *both, other *region.Pool, row *numbers) {
	b.t.Helper()
	at, order := b.place(row)
	switch row.below(6) {
	case 0:
		if got, want := other.Trim(), b.p.Trim(); got != want {
			b.t.Fatalf("Trim: %d, not %d", got, want)
		}
		b.w.trim()
	case 1, 2, 3:
		order, deny := row.below(b.w.c.Order+1), row.below(3) == 0
		if got, want := ask(other, order, deny), ask(b.p, order, deny); got != want || want != b.w.need(order, deny) {
			b.t.Fatalf("Need: %v, not %v", got, want)
		}
	default:
		if got, want := other.Give(at, order), b.p.Give(at, order); got != want || want != b.w.give(at, order) {
			b.t.Fatalf("Give: %v, not %v", got, want)
		}
	}
}

// fillRoom writes over the spare room of all lists; with all also over what stands in them.
func (d plain) fillRoom(all bool) {
	from := func(n int) int {
		if all {
			return 0
		}
		return n
	}
	for i := from(len(d.bytes)); i < cap(d.bytes); i++ {
		d.bytes[:cap(d.bytes)][i] = 77
	}
	for i := from(len(d.pages)); i < cap(d.pages); i++ {
		d.pages[:cap(d.pages)][i] = api.Page{Kind: 3, Live: 77}
	}
	for i := from(len(d.heads)); i < cap(d.heads); i++ {
		d.heads[:cap(d.heads)][i] = 77
	}
	for _, words := range d.pairs {
		for i := from(len(words)); i < cap(words); i++ {
			words[:cap(words)][i] = 77
		}
	}
	for i := from(len(d.pairs)); i < cap(d.pairs); i++ {
		d.pairs[:cap(d.pairs)][i] = []uint64{77}
	}
}

// whole is the same with the spare room as part of the lists.
func (d plain) whole() plain {
	d.bytes, d.pages, d.heads = d.bytes[:cap(d.bytes)], d.pages[:cap(d.pages)], d.heads[:cap(d.heads)]
	lists := slices.Clone(d.pairs[:cap(d.pairs)])
	for i, words := range lists {
		lists[i] = words[:cap(words)]
	}
	d.pairs = lists
	return d
}

// R4: the lists that are handed in are neither changed nor kept, their spare room included.
func TestHandedIn(t *testing.T) {
	b := newBoth(t, api.Config{Base: 1 << 20, Limit: 4, Order: 2})
	b.needs(0, 1, 2, 0)
	b.give(1<<20, 0)
	room := tell(b.p, b.w.c).clone(70000)
	room.fillRoom(false)
	want := room.whole().clone(0)
	b.p = room.wantOpen(t)
	play := func(seed numbers) {
		for range 200 {
			b.call(&seed)
		}
		b.check()
	}
	play(1)
	if !reflect.DeepEqual(room.whole().clone(0), want) {
		t.Error("a list that was handed in has changed")
	}
	room.fillRoom(true)
	b.check()
	play(2)
	room.pages[0].Kind = 9
	refused := room.whole().clone(0)
	room.wantRefused(t, "a wrong page", api.EFORM)
	if !reflect.DeepEqual(room.whole().clone(0), refused) {
		t.Error("a list that was refused has changed")
	}
}

// R4: what is told of a pool is new memory: who writes into it does not write into the pool.
func TestTold(t *testing.T) {
	b := newBoth(t, api.Config{Base: 1 << 20, Limit: 4, Order: 2})
	b.needs(0, 1, 2, 0)
	one, other := tell(b.p, b.w.c), tell(b.p, b.w.c)
	one.fillRoom(true)
	if !reflect.DeepEqual(tell(b.p, b.w.c), other) {
		t.Error("what is told is the pool's own memory")
	}
	b.check()
}

// R4: nil and an empty list are one.
func TestNilAndEmpty(t *testing.T) {
	c := api.Config{Base: 4096, Limit: 1}
	for _, d := range []plain{{c: c, heads: []uint64{0}}, {c: c, bytes: []byte{}, pages: []api.Page{}, pairs: [][]uint64{}, heads: []uint64{0}}} {
		b := &both{t, d.wantOpen(t), newModel(c), map[uint64][]byte{}}
		b.check()
		b.wantNeed(0, false, needed{4096, true, api.OK})
	}
	c.Order, c.Base = 1, 8192
	for _, pairs := range [][][]uint64{{nil}, {{}}} {
		d := plain{c: c, pairs: pairs, heads: []uint64{0, 0}}
		b := &both{t, d.wantOpen(t), newModel(c), map[uint64][]byte{}}
		b.wantNeed(0, false, needed{8192, true, api.OK})
	}
}

// R5: two pools know nothing of one another, two new ones, and one that is opened of what the other tells.
func TestTwo(t *testing.T) {
	c := api.Config{Base: 1 << 20, Limit: 3, Order: 2}
	one, other := newBoth(t, c), newBoth(t, c)
	row := numbers(5)
	for range 100 {
		one.call(&row)
		other.check()
		other.call(&row)
		one.check()
	}
	opened := tell(one.p, c).wantOpen(t)
	if opened.Space() == one.p.Space() || opened.Map() == one.p.Map() || opened.Buddy() == one.p.Buddy() {
		t.Fatal("what is opened stands on another's ground")
	}
	stays := tell(opened, c)
	for range 100 {
		one.call(&row)
		one.check()
	}
	if !reflect.DeepEqual(tell(opened, c), stays) {
		t.Error("what is done on one pool is seen on another")
	}
	stays = tell(one.p, c)
	for range 12 {
		opened.Need(0, false)
	}
	opened.Space().Fill(c.Base, 1<<15, 9)
	if !reflect.DeepEqual(tell(one.p, c), stays) {
		t.Error("what is done on one pool is seen on another")
	}
}
