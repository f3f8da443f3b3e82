package arena_test

import (
	"bytes"
	"reflect"
	"slices"
	"testing"

	"croft/api"
	"croft/arena"
	"croft/malloc"
)

// most is the greatest number that there is.
const most = 1<<64 - 1

// numbers gives the same long row of numbers each time.
type numbers uint64

func (n *numbers) below(end int) int {
	*n = *n*6364136223846793005 + 1442695040888963407
	return int(uint64(*n) >> 33 % uint64(end))
}

// bytes tells so many.
func (n *numbers) bytes(count int) []byte {
	list := make([]byte, count)
	for i := range list {
		list[i] = byte(n.below(256))
	}
	return list
}

// size tells one that a region has, most often, and as often a small one as a greater.
func (n *numbers) size(c api.Config) uint64 {
	r := uint64(8) << n.below(11+c.Order)
	if n.below(2) == 0 {
		r = 8 << n.below(7)
	}
	return r - uint64(n.below(2)*n.below(int(r)))
}

// align tells one that a region has, most often a small one.
func (n *numbers) align(c api.Config) uint64 {
	if n.below(4) == 0 {
		return 1 << n.below(13+c.Order)
	}
	return 1 << n.below(7)
}

// oneOf tells one of a list.
func oneOf[T any](row *numbers, list ...T) T { return list[row.below(len(list))] }

// edges tells numbers at which something may change.
func edges() []uint64 {
	return []uint64{0, 1, 2, 3, 15, 16, 17, 255, 256, 2048, 2049, 4095, 4096, 4097, 8191, 8192, 8193, 16384, 65535, 65536, 65537, 1 << 32, 1<<63 - 1, 1 << 63, 1<<63 + 1, most - 4095, most - 1, most}
}

// noMarks tells some numbers that are no mark's, whatever was marked.
func noMarks() []int { return []int{-1, -2, -64, 1 << 20, 1 << 32, 1<<63 - 1, -1 << 63} }

// example is the Config of the chapter's table: R is 8192.
func example() api.Config { return api.Config{Base: 65536, Limit: 2, Order: 1} }

// config is one of an order, with as many regions as may be, up to some.
func config(order, up int) api.Config {
	return api.Config{Base: 1 << 32, Limit: min(up, 64, 1024>>order), Order: order}
}

// regionBytes is R, by doubling.
func regionBytes(c api.Config) uint64 {
	r := uint64(4096)
	for range c.Order {
		r += r
	}
	return r
}

// sizeFor is the size for a request of some bytes at a multiple of a power of 2; 0, if none is at most R.
func sizeFor(c api.Config, size, align uint64) uint64 {
	for r := uint64(16); r <= regionBytes(c); r += r {
		if r >= size && r >= align {
			return r
		}
	}
	return 0
}

// isPower says whether x is a power of 2, by trying all of them.
func isPower(x uint64) bool {
	for i := range 64 {
		if x == 1<<i {
			return true
		}
	}
	return false
}

func newHeap(t *testing.T, c api.Config) *malloc.Heap {
	t.Helper()
	h, e := malloc.New(c)
	if e != api.OK {
		t.Fatalf("malloc.New(%+v): %v", c, e)
	}
	return h
}

func newArena(t *testing.T, h *malloc.Heap, chunk uint64) *arena.Arena {
	t.Helper()
	a, e := arena.New(h, chunk)
	if a == nil || e != api.OK {
		t.Fatalf("New(h, %d): %v, %v", chunk, a, e)
	}
	return a
}

// answer is what Alloc and the heap's requests answer.
type answer struct {
	p uint64
	e api.Errno
}

// told makes an answer of what a call answered.
func told(p uint64, e api.Errno) answer { return answer{p, e} }

func wants(t *testing.T, what any, got, want answer) {
	t.Helper()
	if got != want {
		t.Fatalf("%v: %v, not %v", what, got, want)
	}
}

func wantsError(t *testing.T, what any, got, want api.Errno) {
	t.Helper()
	if got != want {
		t.Fatalf("%v: %v, not %v", what, got, want)
	}
}

// takes tells a new piece that must come.
func takes(t *testing.T, a *arena.Arena, n, align uint64) uint64 {
	t.Helper()
	p, e := a.Alloc(n, align, false)
	wantsError(t, "Alloc", e, api.OK)
	return p
}

// takesAt asks for a piece that must lie at p, and for which no region may come.
func takesAt(t *testing.T, a *arena.Arena, n, align, p uint64) {
	t.Helper()
	wants(t, "Alloc", told(a.Alloc(n, align, true)), answer{p, api.OK})
}

// takesMany tells the chunks of count pieces, each of which needs one for itself.
func takesMany(t *testing.T, a *arena.Arena, size uint64, count int) []uint64 {
	t.Helper()
	var list []uint64
	for range count {
		list = append(list, takes(t, a, size, 1))
	}
	return list
}

func wantsMark(t *testing.T, a *arena.Arena, want int) {
	t.Helper()
	if got := a.Mark(); got != want {
		t.Fatalf("Mark: %d, not %d", got, want)
	}
}

// releases takes the arena back to a mark that stands.
func releases(t *testing.T, a *arena.Arena, mark int) {
	t.Helper()
	wantsError(t, "Release", a.Release(mark), api.OK)
}

func wantsChunks(t *testing.T, a *arena.Arena, want ...api.Block) {
	t.Helper()
	if got := a.Chunks(); !slices.Equal(got, want) {
		t.Fatalf("Chunks: %v, not %v", got, want)
	}
	sum := uint64(0)
	for _, c := range want {
		sum += c.Size
	}
	if got := a.Held(); got != sum {
		t.Fatalf("Held: %d, not %d", got, sum)
	}
}

func wantsUsed(t *testing.T, a *arena.Arena, want uint64) {
	t.Helper()
	if got := a.Used(); got != want {
		t.Fatalf("Used: %d, not %d", got, want)
	}
}

func wantsLive(t *testing.T, h *malloc.Heap, want ...api.Block) {
	t.Helper()
	if got := h.Live(); !slices.Equal(got, want) {
		t.Fatalf("the heap's Live: %v, not %v", got, want)
	}
}

// wantsBytes asks that these lie at p.
func wantsBytes(t *testing.T, h *malloc.Heap, p uint64, want []byte) {
	t.Helper()
	if got, e := h.Read(p, uint64(len(want))); e != api.OK || !bytes.Equal(got, want) {
		t.Fatalf("the heap's Read(%d, %d): %v, %v, not %v", p, len(want), got, e, want)
	}
}

// state is all that can be seen of an arena and its heap, but for its marks.
type state struct {
	chunks     []api.Block
	used, held uint64
	heap       api.Image
}

func stateOf(a *arena.Arena, h *malloc.Heap) state {
	return state{a.Chunks(), a.Used(), a.Held(), h.Image()}
}

// unchanged asks that something changes nothing.
func unchanged(t *testing.T, what any, a *arena.Arena, h *malloc.Heap, do func()) {
	t.Helper()
	ahead := stateOf(a, h)
	do()
	if !reflect.DeepEqual(stateOf(a, h), ahead) {
		t.Fatalf("%v has changed something", what)
	}
}

// refuses asks that an Alloc is refused, and changes nothing.
func refuses(t *testing.T, a *arena.Arena, h *malloc.Heap, n, align uint64, deny bool, e api.Errno) {
	t.Helper()
	unchanged(t, "Alloc", a, h, func() {
		t.Helper()
		if got := told(a.Alloc(n, align, deny)); got != (answer{0, e}) {
			t.Fatalf("Alloc(%d, %d, %v): %v, not %v", n, align, deny, got, e)
		}
	})
}

// refusesRelease asks that of a Release.
func refusesRelease(t *testing.T, a *arena.Arena, h *malloc.Heap, marks ...int) {
	t.Helper()
	for _, mark := range marks {
		unchanged(t, "Release", a, h, func() {
			t.Helper()
			if got := a.Release(mark); got != api.ESTATE {
				t.Fatalf("Release(%d): %v", mark, got)
			}
		})
	}
}

// span is where a list lies, spare room too.
type span struct{ from, to uintptr }

// spanOf tells none of a list without room.
func spanOf[T any](list []T) []span {
	if cap(list) == 0 {
		return nil
	}
	is := reflect.ValueOf(list)
	return []span{{is.Pointer(), is.Pointer() + uintptr(cap(list))*is.Type().Elem().Size()}}
}

// wantsApart asks that no two of these share a byte.
func wantsApart(t *testing.T, what string, spans ...[]span) {
	t.Helper()
	all := slices.Concat(spans...)
	for i, one := range all {
		for _, other := range all[:i] {
			if one.from < other.to && other.from < one.to {
				t.Fatalf("%s: two lists share memory", what)
			}
		}
	}
}
