package malloc_test

import (
	"bytes"
	"maps"
	"math/big"
	"slices"
	"testing"

	"croft/api"
	"croft/malloc"
	"croft/region"
	"croft/slab"
)

// model is a heap by the chapter's words: it has a pool and a slab of its own, on which it does just the calls that the chapter says, and a plain list of the live blocks.
type model struct {
	c    api.Config
	p    *region.Pool
	s    *slab.Slab
	live map[uint64]uint64 // for each live block's address its size
}

func newModel(t *testing.T, c api.Config) *model {
	t.Helper()
	p, e := region.New(c)
	if e != api.OK {
		t.Fatalf("region.New(%+v): %v", c, e)
	}
	return &model{c, p, slab.New(p), map[uint64]uint64{}}
}

// regionBytes is R, by doubling.
func regionBytes(c api.Config) uint64 {
	r := uint64(4096)
	for range c.Order {
		r += r
	}
	return r
}

// steps tells how often one doubles from least on till r is reached.
func steps(least, r uint64) int {
	n := 0
	for ; least < r; least += least {
		n++
	}
	return n
}

// answer is what most calls answer.
type answer struct {
	p uint64
	e api.Errno
}

// sizeFor is the size for a request of s bytes (any number, not below 0) at a multiple of align; 0, if none is at most R.
func (m *model) sizeFor(s *big.Int, align uint64) uint64 {
	for r := uint64(16); r <= regionBytes(m.c); r += r {
		if new(big.Int).SetUint64(r).Cmp(s) >= 0 && r >= align {
			return r
		}
	}
	return 0
}

func number(x uint64) *big.Int { return new(big.Int).SetUint64(x) }

// request is P8.3, but for the alignment's and the product's errors.
func (m *model) request(s *big.Int, align uint64, deny bool) answer {
	r := m.sizeFor(s, align)
	if r == 0 {
		return answer{0, api.ETOOBIG}
	}
	a := answer{}
	if r < 4096 {
		a.p, _, a.e = m.s.Take(steps(16, r), deny)
	} else {
		a.p, _, a.e = m.p.Need(steps(4096, r), deny)
	}
	if a.e == api.OK {
		m.live[a.p] = r
	}
	return a
}

func (m *model) malloc(size uint64, deny bool) answer { return m.request(number(size), 1, deny) }

func (m *model) calloc(n, size uint64, deny bool) answer {
	a := m.request(new(big.Int).Mul(number(n), number(size)), 1, deny)
	if a.e == api.OK {
		m.p.Space().Write(a.p, make([]byte, m.live[a.p]))
	}
	return a
}

func (m *model) aligned(align, size uint64, deny bool) answer {
	for a := uint64(1); a != 0; a += a { // behind 2^63 it wraps round
		if a == align {
			return m.request(number(size), align, deny)
		}
	}
	return answer{0, api.EINVAL}
}

// realloc is P8.4.
func (m *model) realloc(p, size uint64, deny bool) answer {
	if p == 0 {
		return m.malloc(size, deny)
	}
	r, is := m.live[p]
	if !is {
		return answer{0, api.EINVAL}
	}
	to := m.sizeFor(number(size), 1)
	if to == r {
		return answer{p, api.OK}
	}
	if 4096 <= to && to < r {
		m.p.Buddy().Shrink(p, steps(4096, r), steps(4096, to))
		m.live[p] = to
		return answer{p, api.OK}
	}
	a := m.malloc(size, deny)
	if a.e == api.OK {
		held, _ := m.p.Space().Read(p, min(r, to))
		m.p.Space().Write(a.p, held)
		m.free(p)
	}
	return a
}

// free is P8.5.
func (m *model) free(p uint64) api.Errno {
	r, is := m.live[p]
	delete(m.live, p)
	switch {
	case p == 0:
		return api.OK
	case !is:
		return api.EINVAL
	case r < 4096:
		return m.s.Give(p)
	}
	return m.p.Give(p, steps(4096, r))
}

func (m *model) usable(p uint64) answer {
	if r, is := m.live[p]; is {
		return answer{r, api.OK}
	}
	return answer{0, api.EINVAL}
}

// bytesAt says whether n bytes from p on lie in one live block.
func (m *model) bytesAt(p, n uint64) api.Errno {
	end := new(big.Int).Add(number(p), number(n))
	for at, r := range m.live {
		if at <= p && end.Cmp(number(at+r)) <= 0 {
			return api.OK
		}
	}
	if n == 0 {
		return api.OK
	}
	return api.EFAULT
}

// write is P8.6 of bytes.
func (m *model) write(p uint64, b []byte) api.Errno {
	e := m.bytesAt(p, uint64(len(b)))
	if e == api.OK {
		m.p.Space().Write(p, b)
	}
	return e
}

// read tells none with an error.
func (m *model) read(p, n uint64) ([]byte, api.Errno) {
	e := m.bytesAt(p, n)
	if e != api.OK {
		return nil, e
	}
	b, _ := m.p.Space().Read(p, n)
	return b, e
}

// blocks are the live ones, rising.
func (m *model) blocks() []api.Block {
	var list []api.Block
	for _, p := range slices.Sorted(maps.Keys(m.live)) {
		list = append(list, api.Block{P: p, Size: m.live[p]})
	}
	return list
}

// image is what the model's pool and slab tell.
func (m *model) image() api.Image {
	s := m.p.Space()
	im := api.Image{Config: m.c, Regions: s.Regions(), Heads: m.p.Buddy().Heads(), Partial: m.s.Partial()}
	im.Mem, _ = s.Read(m.c.Base, uint64(s.Regions())*regionBytes(m.c))
	im.Pages, im.Pairs = m.p.Map().Plain()
	return im
}

// stats are told by the live blocks and the number of regions alone.
func (m *model) stats() api.Stats {
	return statsOf(m.c, m.p.Space().Regions(), m.blocks())
}

func statsOf(c api.Config, regions int, live []api.Block) api.Stats {
	s := api.Stats{H: uint64(regions) * regionBytes(c), Blocks: len(live)}
	met := map[uint64]bool{}
	for _, b := range live {
		s.L += b.Size
		for p := b.P; p < b.P+b.Size; p += 16 {
			met[p-p%4096] = true
		}
	}
	s.FreePages = int(s.H/4096) - len(met)
	return s
}

// same says whether two images are one.
func same(one, other api.Image) bool {
	return one.Config == other.Config && one.Regions == other.Regions &&
		bytes.Equal(one.Mem, other.Mem) && slices.Equal(one.Pages, other.Pages) &&
		slices.EqualFunc(one.Pairs, other.Pairs, slices.Equal[[]uint64]) &&
		slices.Equal(one.Heads, other.Heads) && slices.Equal(one.Partial, other.Partial)
}

// both is a heap beside its model: each call is done on the two, and must answer one thing.
type both struct {
	t *testing.T
	h *malloc.Heap
	w *model
}

func newHeap(t *testing.T, c api.Config) *malloc.Heap {
	t.Helper()
	h, e := malloc.New(c)
	if h == nil || e != api.OK {
		t.Fatalf("New(%+v): %v, %v", c, h, e)
	}
	return h
}

func newBoth(t *testing.T, c api.Config) *both {
	t.Helper()
	return &both{t, newHeap(t, c), newModel(t, c)}
}

func (b *both) hold(call string, got, want answer) answer {
	b.t.Helper()
	if got != want {
		b.t.Fatalf("%s: %v, not %v", call, got, want)
	}
	return got
}

func (b *both) malloc(size uint64, deny bool) answer {
	b.t.Helper()
	p, e := b.h.Malloc(size, deny)
	return b.hold("Malloc", answer{p, e}, b.w.malloc(size, deny))
}

func (b *both) calloc(n, size uint64, deny bool) answer {
	b.t.Helper()
	p, e := b.h.Calloc(n, size, deny)
	return b.hold("Calloc", answer{p, e}, b.w.calloc(n, size, deny))
}

func (b *both) aligned(align, size uint64, deny bool) answer {
	b.t.Helper()
	p, e := b.h.AlignedAlloc(align, size, deny)
	return b.hold("AlignedAlloc", answer{p, e}, b.w.aligned(align, size, deny))
}

func (b *both) realloc(p, size uint64, deny bool) answer {
	b.t.Helper()
	q, e := b.h.Realloc(p, size, deny)
	return b.hold("Realloc", answer{q, e}, b.w.realloc(p, size, deny))
}

func (b *both) free(p uint64) answer {
	b.t.Helper()
	return b.hold("Free", answer{0, b.h.Free(p)}, answer{0, b.w.free(p)})
}

func (b *both) usable(p uint64) answer {
	b.t.Helper()
	r, e := b.h.UsableSize(p)
	return b.hold("UsableSize", answer{r, e}, b.w.usable(p))
}

func (b *both) trim() int {
	b.t.Helper()
	got, want := b.h.Trim(), b.w.p.Trim()
	if got != want {
		b.t.Fatalf("Trim: %d, not %d", got, want)
	}
	return got
}

func (b *both) store(p uint64, v byte) answer {
	b.t.Helper()
	return b.hold("Store", answer{0, b.h.Store(p, v)}, answer{0, b.w.write(p, []byte{v})})
}

func (b *both) storeWord(p, v uint64) answer {
	b.t.Helper()
	var list []byte
	for rest := v; len(list) < 8; rest /= 256 {
		list = append(list, byte(rest%256))
	}
	return b.hold("StoreWord", answer{0, b.h.StoreWord(p, v)}, answer{0, b.w.write(p, list)})
}

func (b *both) write(p uint64, list []byte) answer {
	b.t.Helper()
	return b.hold("Write", answer{0, b.h.Write(p, list)}, answer{0, b.w.write(p, list)})
}

func (b *both) load(p uint64) answer {
	b.t.Helper()
	v, e := b.h.Load(p)
	held, f := b.w.read(p, 1)
	return b.hold("Load", answer{uint64(v), e}, answer{sum(held), f})
}

func (b *both) loadWord(p uint64) answer {
	b.t.Helper()
	v, e := b.h.LoadWord(p)
	held, f := b.w.read(p, 8)
	return b.hold("LoadWord", answer{v, e}, answer{sum(held), f})
}

// sum is the number of which these are the bytes, the lowest first; of none 0.
func sum(list []byte) uint64 {
	v := uint64(0)
	for _, b := range slices.Backward(list) {
		v = v*256 + uint64(b)
	}
	return v
}

func (b *both) read(p, n uint64) []byte {
	b.t.Helper()
	got, e := b.h.Read(p, n)
	want, f := b.w.read(p, n)
	if e != f || !bytes.Equal(got, want) {
		b.t.Fatalf("Read(%d, %d): %v, %v; not %v, %v", p, n, got, e, want, f)
	}
	return got
}

// takes asks for blocks of those sizes, none denied, and tells where they are.
func (b *both) takes(sizes ...uint64) []uint64 {
	b.t.Helper()
	var list []uint64
	for _, size := range sizes {
		a := b.malloc(size, false)
		b.want("Malloc", a.e, api.OK)
		list = append(list, a.p)
	}
	return list
}

// frees gives live blocks back.
func (b *both) frees(list ...uint64) {
	b.t.Helper()
	for _, p := range list {
		b.want("Free", b.free(p).e, api.OK)
	}
}

// fill writes a byte to all places of a live block.
func (b *both) fill(p uint64, v byte) {
	b.t.Helper()
	b.want("Write", b.write(p, bytes.Repeat([]byte{v}, int(b.w.live[p]))).e, api.OK)
}

func (b *both) want(call string, got, want api.Errno) {
	b.t.Helper()
	if got != want {
		b.t.Fatalf("%s: %v, not %v", call, got, want)
	}
}

// is asks for an answer that a row of the chapter tells, and holds all else against the model.
func (b *both) is(got, want answer) {
	b.t.Helper()
	if got != want {
		b.t.Errorf("%v, not %v", got, want)
	}
	b.check()
}

// check holds all that can be seen against the model: every byte, every page, all lists.
func (b *both) check() {
	b.t.Helper()
	got, want := b.h.Image(), b.w.image()
	if !same(got, want) {
		got.Mem, want.Mem = nil, nil
		b.t.Fatalf("the image: %+v, not %+v", got, want)
	}
	if got, want := b.h.Live(), b.w.blocks(); !slices.Equal(got, want) {
		b.t.Fatalf("Live: %v, not %v", got, want)
	}
	if got, want := b.h.Stats(), b.w.stats(); got != want {
		b.t.Fatalf("Stats: %+v, not %+v", got, want)
	}
	if got := b.h.Config(); got != b.w.c {
		b.t.Fatalf("Config: %+v, not %+v", got, b.w.c)
	}
}

// refused does a call that must be refused, and asks that nothing is changed.
func (b *both) refused(call func() answer, want api.Errno) {
	b.t.Helper()
	ahead := b.h.Image()
	if got := call(); got != (answer{0, want}) {
		b.t.Fatalf("a call that is refused: %v, not %v", got, want)
	}
	if !same(b.h.Image(), ahead) {
		b.t.Fatalf("a call that is refused with %v has changed something", want)
	}
	b.check()
}

func (b *both) refusedMalloc(size uint64, deny bool, want api.Errno) {
	b.t.Helper()
	b.refused(func() answer { p, e := b.h.Malloc(size, deny); return answer{p, e} }, want)
}

func (b *both) refusedCalloc(n, size uint64, deny bool, want api.Errno) {
	b.t.Helper()
	b.refused(func() answer { p, e := b.h.Calloc(n, size, deny); return answer{p, e} }, want)
}

func (b *both) refusedAligned(align, size uint64, deny bool, want api.Errno) {
	b.t.Helper()
	b.refused(func() answer { p, e := b.h.AlignedAlloc(align, size, deny); return answer{p, e} }, want)
}

func (b *both) refusedRealloc(p, size uint64, deny bool, want api.Errno) {
	b.t.Helper()
	b.refused(func() answer { q, e := b.h.Realloc(p, size, deny); return answer{q, e} }, want)
}

// numbers gives the same long row of numbers each time.
type numbers uint64

func (n *numbers) below(end int) int {
	*n = *n*6364136223846793005 + 1442695040888963407
	return int(uint64(*n) >> 33 % uint64(end))
}

// size tells one for a request, most often close to a power of 2 up to R, now and then far above.
func (n *numbers) size(c api.Config) uint64 {
	if n.below(30) == 0 {
		return []uint64{regionBytes(c) + 1, 1 << 32, 1 << 63, 1<<63 + 1, 1<<64 - 1}[n.below(5)]
	}
	r := uint64(8) << n.below(10+c.Order)
	return r - uint64(n.below(2)*n.below(int(r)))
}

// place tells an address, most often that of a live block, else one close to those that may be.
func (b *both) place(row *numbers) uint64 {
	if live := b.w.blocks(); len(live) > 0 && row.below(6) > 0 {
		return live[row.below(len(live))].P
	}
	committed := int(b.h.Stats().H)
	p := b.w.c.Base - 4096 + uint64(row.below(committed+8192))
	return p - p%[]uint64{1, 16, 256, 2048, 4096}[row.below(5)]
}

// call does one of the calls, with arguments close to those that may be.
func (b *both) call(row *numbers) {
	b.t.Helper()
	p, size, deny := b.place(row), row.size(b.w.c), row.below(3) == 0
	switch row.below(14) {
	case 0:
		b.trim()
	case 1, 2, 3:
		b.malloc(size, deny)
	case 4:
		n := uint64(row.below(5))
		b.calloc(n, size/max(n, 1), deny)
	case 5:
		b.aligned(1<<row.below(20)-uint64(row.below(8)/7), size, deny)
	case 6, 7:
		b.realloc(p*uint64(min(1, row.below(8))), size, deny)
	case 8, 9:
		b.bytes(row, p)
	default:
		b.usable(p)
		b.free(p)
	}
}

// bytes does one of the calls on bytes at p or close by.
func (b *both) bytes(row *numbers, p uint64) {
	b.t.Helper()
	r := b.w.live[p]
	at := p + uint64(row.below(int(r)+2))
	switch v := uint64(row.below(1<<31)) * 0x100000001; row.below(7) {
	case 0:
		b.store(at, byte(v))
	case 1:
		b.load(at)
	case 2:
		b.storeWord(at, v)
	case 3:
		b.loadWord(at)
	case 4:
		b.read(at, uint64(row.below(int(r)+2)))
	default:
		b.write(p, bytes.Repeat([]byte{byte(v), byte(v >> 8), 7}, int(r))[:row.below(int(r)+1)])
	}
}

// P8.3 to P8.8: long rows of calls, held against the model behind each.
func TestAgainstModel(t *testing.T) {
	for seed := range 60 {
		row := numbers(seed)
		b := newBoth(t, api.Config{Base: 1 << 20, Limit: 1 + seed%5, Order: seed % 4})
		for range 250 {
			b.call(&row)
			b.check()
		}
	}
}

// P8.3 to P8.8: the same of the greatest spaces, with regions of every size.
func TestGreatOnesAgainstModel(t *testing.T) {
	for order := range 9 {
		row := numbers(order)
		limit := min(64, 1024>>order)
		c := api.Config{Base: 1<<63 - uint64(limit)*4096<<order, Limit: limit, Order: order}
		b := newBoth(t, c)
		for range limit {
			b.malloc(regionBytes(c)>>row.below(4), false)
		}
		for range 8 {
			for range 40 {
				b.call(&row)
			}
			b.check()
		}
	}
}
