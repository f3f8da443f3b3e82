package cache_test

import (
	"bytes"
	"maps"
	"math/big"
	"slices"
	"testing"

	"croft/api"
	"croft/cache"
	"croft/malloc"
)

// model is a Shared by the chapter's words: it has a heap of its own, on which it does just the calls that the chapter says, a plain list of what is handed out, and for each worker one row of what came to hand, of all classes.
type model struct {
	c     api.Config
	h     *malloc.Heap
	depth int
	out   map[uint64]uint64 // for each block's address its size
	hands [][]api.Block
}

func newModel(t *testing.T, c api.Config, workers, depth int) *model {
	t.Helper()
	h, e := malloc.New(c)
	if e != api.OK {
		t.Fatalf("malloc.New(%+v): %v", c, e)
	}
	return &model{c, h, depth, map[uint64]uint64{}, make([][]api.Block, workers)}
}

func (m *model) isNone(worker int) bool { return worker < 0 || worker >= len(m.hands) }

func number(x uint64) *big.Int { return new(big.Int).SetUint64(x) }

// sizeFor is the size for a request of s bytes (any number, not below 0) at a multiple of align; 0, if none is at most R.
func (m *model) sizeFor(s *big.Int, align uint64) uint64 {
	for r := uint64(16); r <= regionBytes(m.c); r += r {
		if number(r).Cmp(s) >= 0 && r >= align {
			return r
		}
	}
	return 0
}

// atHand tells how many blocks of a size a worker has, and where the last of them stands in its row.
func (m *model) atHand(worker int, size uint64) (count, last int) {
	for i, b := range m.hands[worker] {
		if b.Size == size {
			count, last = count+1, i
		}
	}
	return count, last
}

// drop takes one out of a worker's row.
func (m *model) drop(worker, i int) api.Block {
	b := m.hands[worker][i]
	m.hands[worker] = slices.Delete(m.hands[worker], i, i+1)
	return b
}

// request is P13.3, but for the alignment's error and Calloc's zeros.
func (m *model) request(worker int, s *big.Int, align uint64, deny bool) answer {
	if m.isNone(worker) {
		return answer{0, api.EINVAL}
	}
	r := m.sizeFor(s, align)
	if r == 0 {
		return answer{0, api.ETOOBIG}
	}
	a := answer{}
	if count, last := m.atHand(worker, r); count > 0 {
		a.p = m.drop(worker, last).P
	} else if a = told(m.h.Malloc(r, true)); a.e == api.ENOMEM {
		m.drain()
		a = told(m.h.Malloc(r, deny))
	}
	if a.e == api.OK {
		m.out[a.p] = r
	}
	return a
}

func (m *model) malloc(worker int, size uint64, deny bool) answer {
	return m.request(worker, number(size), 1, deny)
}

func (m *model) calloc(worker int, n, size uint64, deny bool) answer {
	a := m.request(worker, new(big.Int).Mul(number(n), number(size)), 1, deny)
	if a.e == api.OK {
		m.h.Write(a.p, make([]byte, m.out[a.p]))
	}
	return a
}

func (m *model) aligned(worker int, align, size uint64, deny bool) answer {
	for a := uint64(1); a != 0; a += a { // behind 2^63 it wraps round
		if a == align {
			return m.request(worker, number(size), align, deny)
		}
	}
	return answer{0, api.EINVAL}
}

// realloc is P13.5.
func (m *model) realloc(worker int, p, size uint64, deny bool) answer {
	r, is := m.out[p]
	to := m.sizeFor(number(size), 1)
	switch {
	case m.isNone(worker):
		return answer{0, api.EINVAL}
	case p == 0:
		return m.malloc(worker, size, deny)
	case !is:
		return answer{0, api.EINVAL}
	case to == 0:
		return answer{0, api.ETOOBIG}
	case to == r, 4096 <= to && to < r:
		m.out[p] = to
		return told(m.h.Realloc(p, size, deny))
	}
	a := m.malloc(worker, size, deny)
	if a.e == api.OK {
		held, _ := m.h.Read(p, min(r, to))
		m.h.Write(a.p, held)
		m.free(worker, p)
	}
	return a
}

// free is P13.4.
func (m *model) free(worker int, p uint64) api.Errno {
	if m.isNone(worker) {
		return api.EINVAL
	}
	if p == 0 {
		return api.OK
	}
	r, is := m.out[p]
	if !is {
		return api.EINVAL
	}
	delete(m.out, p)
	if count, _ := m.atHand(worker, r); r < 4096 && count < m.depth {
		m.hands[worker] = append(m.hands[worker], api.Block{P: p, Size: r})
		return api.OK
	}
	return m.h.Free(p)
}

func (m *model) usable(p uint64) answer {
	if r, is := m.out[p]; is {
		return answer{r, api.OK}
	}
	return answer{0, api.EINVAL}
}

// bytesAt says whether n bytes from p on lie in one block that is handed out.
func (m *model) bytesAt(p, n uint64) api.Errno {
	end := new(big.Int).Add(number(p), number(n))
	for at, r := range m.out {
		if at <= p && end.Cmp(number(at+r)) <= 0 {
			return api.OK
		}
	}
	if n == 0 {
		return api.OK
	}
	return api.EFAULT
}

func (m *model) read(p, n uint64) ([]byte, api.Errno) {
	if e := m.bytesAt(p, n); e != api.OK || n == 0 {
		return nil, e
	}
	return m.h.Read(p, n)
}

func (m *model) write(p uint64, b []byte) api.Errno {
	if e := m.bytesAt(p, uint64(len(b))); e != api.OK || len(b) == 0 {
		return e
	}
	return m.h.Write(p, b)
}

// drain is P13.7.
func (m *model) drain() int {
	sum := 0
	for worker := range m.hands {
		for _, size := range smallSizes() {
			for {
				count, last := m.atHand(worker, size)
				if count == 0 {
					break
				}
				m.h.Free(m.drop(worker, last).P)
				sum++
			}
		}
	}
	return sum
}

func (m *model) trim() int {
	m.drain()
	return m.h.Trim()
}

func (m *model) stats() api.Stats {
	m.drain()
	return m.h.Stats()
}

func (m *model) kept(worker int) []int {
	if m.isNone(worker) {
		return nil
	}
	var list []int
	for _, size := range smallSizes() {
		count, _ := m.atHand(worker, size)
		list = append(list, count)
	}
	return list
}

// live are the blocks that are handed out, rising.
func (m *model) live() []api.Block {
	var list []api.Block
	for _, p := range slices.Sorted(maps.Keys(m.out)) {
		list = append(list, api.Block{P: p, Size: m.out[p]})
	}
	return list
}

// one is P13.8 of a step.
func (m *model) one(worker int, c api.Call, answers []api.Answer) (a api.Answer) {
	p := c.P
	if c.Ref != 0 {
		if c.Ref < 1 || c.Ref > len(answers) {
			return api.Answer{E: api.EINVAL}
		}
		if before := answers[c.Ref-1]; before.E == api.OK {
			p += before.V
		}
	}
	if m.isNone(worker) {
		return api.Answer{E: api.EINVAL}
	}
	if c.Op >= api.OpLoad && c.Op <= api.OpWrite {
		return m.oneOfBytes(c, p)
	}
	is := answer{}
	switch c.Op {
	case api.OpMalloc:
		is = m.malloc(worker, c.A, c.Deny)
	case api.OpCalloc:
		is = m.calloc(worker, c.A, c.B, c.Deny)
	case api.OpAligned:
		is = m.aligned(worker, c.A, c.B, c.Deny)
	case api.OpRealloc:
		is = m.realloc(worker, p, c.A, c.Deny)
	case api.OpFree:
		is.e = m.free(worker, p)
	case api.OpUsable:
		is = m.usable(p)
	case api.OpTrim:
		is.p = uint64(m.trim())
	case api.OpStats:
		return api.Answer{Stats: m.stats()}
	default:
		is.e = api.EINVAL
	}
	return api.Answer{E: is.e, V: is.p}
}

// oneOfBytes is P13.8 of a call on bytes.
func (m *model) oneOfBytes(c api.Call, p uint64) (a api.Answer) {
	wide := map[int]uint64{api.OpLoad: 1, api.OpStore: 1, api.OpLoadWord: 8, api.OpStoreWord: 8}[c.Op]
	switch c.Op {
	case api.OpLoad, api.OpLoadWord:
		held, e := m.read(p, wide)
		for _, b := range slices.Backward(held) {
			a.V = a.V*256 + uint64(b)
		}
		a.E = e
	case api.OpStore, api.OpStoreWord:
		var list []byte
		for rest := c.A; uint64(len(list)) < wide; rest /= 256 {
			list = append(list, byte(rest%256))
		}
		a.E = m.write(p, list)
	case api.OpRead:
		if c.A > 65536 {
			return api.Answer{E: api.ELIMIT}
		}
		a.Data, a.E = m.read(p, c.A)
	case api.OpWrite:
		if len(c.Data) > 65536 {
			return api.Answer{E: api.ELIMIT}
		}
		a.E = m.write(p, c.Data)
	}
	return a
}

// both is a Shared beside its model: each call is done on the two, and must answer one thing.
type both struct {
	t *testing.T
	s *cache.Shared
	w *model
}

func newBoth(t *testing.T, c api.Config, workers, depth int) *both {
	t.Helper()
	return &both{t, newShared(t, c, workers, depth), newModel(t, c, workers, depth)}
}

func (b *both) hold(call string, got, want answer) answer {
	b.t.Helper()
	wants(b.t, call, got, want)
	return got
}

func (b *both) malloc(worker int, size uint64, deny bool) answer {
	b.t.Helper()
	return b.hold("Malloc", told(b.s.Malloc(worker, size, deny)), b.w.malloc(worker, size, deny))
}

func (b *both) calloc(worker int, n, size uint64, deny bool) answer {
	b.t.Helper()
	return b.hold("Calloc", told(b.s.Calloc(worker, n, size, deny)), b.w.calloc(worker, n, size, deny))
}

func (b *both) aligned(worker int, align, size uint64, deny bool) answer {
	b.t.Helper()
	return b.hold("AlignedAlloc", told(b.s.AlignedAlloc(worker, align, size, deny)), b.w.aligned(worker, align, size, deny))
}

func (b *both) realloc(worker int, p, size uint64, deny bool) answer {
	b.t.Helper()
	return b.hold("Realloc", told(b.s.Realloc(worker, p, size, deny)), b.w.realloc(worker, p, size, deny))
}

func (b *both) free(worker int, p uint64) api.Errno {
	b.t.Helper()
	return b.hold("Free", answer{0, b.s.Free(worker, p)}, answer{0, b.w.free(worker, p)}).e
}

func (b *both) usable(p uint64) answer {
	b.t.Helper()
	return b.hold("UsableSize", told(b.s.UsableSize(p)), b.w.usable(p))
}

func (b *both) read(p, n uint64) []byte {
	b.t.Helper()
	got, e := b.s.Read(p, n)
	want, f := b.w.read(p, n)
	if !bytes.Equal(got, want) || e != f {
		b.t.Fatalf("Read(%d, %d): %v, %v, not %v, %v", p, n, got, e, want, f)
	}
	return got
}

func (b *both) write(p uint64, list []byte) api.Errno {
	b.t.Helper()
	return b.hold("Write", answer{0, b.s.Write(p, list)}, answer{0, b.w.write(p, list)}).e
}

func (b *both) count(call string, got, want int) int {
	b.t.Helper()
	if got != want {
		b.t.Fatalf("%s: %d, not %d", call, got, want)
	}
	return got
}

func (b *both) drain() int {
	b.t.Helper()
	return b.count("Drain", b.s.Drain(), b.w.drain())
}

func (b *both) trim() int {
	b.t.Helper()
	return b.count("Trim", b.s.Trim(), b.w.trim())
}

func (b *both) stats() api.Stats {
	b.t.Helper()
	got, want := b.s.Stats(), b.w.stats()
	if got != want {
		b.t.Fatalf("Stats: %+v, not %+v", got, want)
	}
	return got
}

// check asks for all that can be seen without a change.
func (b *both) check() {
	b.t.Helper()
	if got, want := b.s.Live(), b.w.live(); !slices.Equal(got, want) {
		b.t.Fatalf("Live: %v, not %v", got, want)
	}
	for worker := -1; worker < 18; worker++ {
		if got, want := b.s.Kept(worker), b.w.kept(worker); !slices.Equal(got, want) {
			b.t.Fatalf("Kept(%d): %v, not %v", worker, got, want)
		}
	}
}

// place tells an address: that of a block that is handed out, or at hand, one in it, one close by, or any.
func (b *both) place(row *numbers) uint64 {
	list := b.w.live()
	for _, hand := range b.w.hands {
		if row.below(4) == 0 {
			list = append(list, hand...)
		}
	}
	if len(list) == 0 || row.below(12) == 0 {
		return oneOf(row, 0, 1, b.w.c.Base, b.w.c.Base+4096, row.word())
	}
	at := list[row.below(len(list))]
	return at.P + oneOf(row, 0, 0, 0, 0, 0, 8, uint64(row.below(int(at.Size))), at.Size-1, at.Size)
}

// worker tells one; now and then one that is none.
func (b *both) worker(row *numbers) int {
	if row.below(30) == 0 {
		return oneOf(row, noWorkers(len(b.w.hands))...)
	}
	return row.below(len(b.w.hands))
}

// call does some call.
func (b *both) call(row *numbers) {
	b.t.Helper()
	worker, size, deny, p := b.worker(row), row.size(b.w.c), row.below(3) == 0, b.place(row)
	if row.below(30) == 0 {
		size = oneOf(row, edges()...)
	}
	switch kind := row.below(40); {
	case kind < 12:
		b.malloc(worker, size, deny)
	case kind < 14:
		b.calloc(worker, oneOf(row, 0, 1, 2, 3, row.word()), size/2, deny)
	case kind < 16:
		b.aligned(worker, oneOf(row, 1, 2, 64, 4096, 8192, edges()[row.below(len(edges()))]), size, deny)
	case kind < 20:
		b.realloc(worker, p, size, deny)
	case kind < 23:
		b.usable(p)
	case kind < 25:
		b.read(p, oneOf(row, 0, 1, 8, 16, size, row.word()))
	case kind < 28:
		b.write(p, row.bytes(row.below(40)))
	case kind == 28 && row.below(3) == 0:
		b.drain()
	case kind == 29 && row.below(3) == 0:
		b.trim()
	case kind == 30 && row.below(3) == 0:
		b.stats()
	default:
		b.free(worker, p)
	}
}

// P13.1 to P13.7: behind long rows of calls each answers what the chapter says, with every Order, and with few and many workers and depths.
func TestCalls(t *testing.T) {
	for seed := range 120 {
		row := numbers(seed)
		b := newBoth(t, config(seed%9, 1+seed%4), 1+seed%7, []int{0, 1, 2, 3, 5, 64}[seed/2%6])
		for range 300 {
			b.call(&row)
			b.check()
		}
	}
}

// The same where all workers have much at hand: many small blocks, and hands that fill.
func TestCallsOfFullHands(t *testing.T) {
	for _, x := range [][2]int{{1, 64}, {16, 64}, {16, 1}, {16, 8}} {
		row := numbers(x[0] + x[1])
		b := newBoth(t, config(4, 3), x[0], x[1])
		for i := range 3000 {
			worker, size, p := row.below(x[0]), smallSizes()[row.below(8)], b.place(&row)
			if i/500%2 == 0 {
				b.malloc(worker, size, row.below(2) == 0)
			} else {
				b.free(worker, p)
			}
			if i%50 == 0 {
				b.check()
			}
		}
		b.check()
		b.drain()
		b.check()
	}
}
