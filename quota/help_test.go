package quota_test

import (
	"bytes"
	"reflect"
	"slices"
	"testing"

	"croft/api"
	"croft/malloc"
	"croft/quota"
)

// most is the greatest limit that there is.
const most = 1<<64 - 1

// numbers gives the same long row of numbers each time.
type numbers uint64

func (n *numbers) below(end int) int {
	*n = *n*6364136223846793005 + 1442695040888963407
	return int(uint64(*n) >> 33 % uint64(end))
}

// bytes tells so many.
func (n *numbers) bytes(count int) []byte {
	list := make([]byte, count)
	for i := range list {
		list[i] = byte(n.below(256))
	}
	return list
}

// size tells one that a region has, most often, and as often a small one as a greater.
func (n *numbers) size(c api.Config) uint64 {
	r := uint64(8) << n.below(11+c.Order)
	if n.below(3) == 0 {
		r = 8 << n.below(9)
	}
	return r - uint64(n.below(2)*n.below(int(r)))
}

// oneOf tells one of a list.
func oneOf[T any](row *numbers, list ...T) T { return list[row.below(len(list))] }

// edges tells numbers at which something may change.
func edges() []uint64 {
	return []uint64{0, 1, 15, 16, 17, 255, 256, 2048, 2049, 4095, 4096, 4097, 8192, 8193, 65535, 65536, 65537, 1 << 32, 1<<63 - 1, 1 << 63, 1<<63 + 1, most - 15, most - 1, most}
}

// noOwners tells some numbers that are no owner's, whoever was opened.
func noOwners() []int { return []int{-1, -2, -64, 64, 65, 1 << 32, 1<<63 - 1, -1 << 63} }

// example is the Config of the chapter's table: R is 8192.
func example() api.Config { return api.Config{Base: 65536, Limit: 2, Order: 1} }

// config is one of an order, with as many regions as may be, up to some.
func config(order, up int) api.Config {
	return api.Config{Base: 1 << 32, Limit: min(up, 64, 1024>>order), Order: order}
}

// regionBytes is R, by doubling.
func regionBytes(c api.Config) uint64 {
	r := uint64(4096)
	for range c.Order {
		r += r
	}
	return r
}

// newBank makes one with owners of these limits: their numbers are 0, 1, ..
func newBank(t *testing.T, c api.Config, limits ...uint64) *quota.Bank {
	t.Helper()
	b, e := quota.New(c)
	if b == nil || e != api.OK {
		t.Fatalf("New(%+v): %v, %v", c, b, e)
	}
	for i, limit := range limits {
		opens(t, b, limit, i)
	}
	return b
}

func newHeap(t *testing.T, c api.Config) *malloc.Heap {
	t.Helper()
	h, e := malloc.New(c)
	if e != api.OK {
		t.Fatalf("malloc.New(%+v): %v", c, e)
	}
	return h
}

// opens asks for an owner, whose number must be that one.
func opens(t *testing.T, b *quota.Bank, limit uint64, want int) {
	t.Helper()
	if got, e := b.Open(limit); got != want || e != api.OK {
		t.Fatalf("Open(%d): %d, %v, not %d", limit, got, e, want)
	}
}

// closes asks for an owner's end, who has so many blocks.
func closes(t *testing.T, b *quota.Bank, owner, want int) {
	t.Helper()
	if got, e := b.Close(owner); got != want || e != api.OK {
		t.Fatalf("Close(%d): %d, %v, not %d", owner, got, e, want)
	}
}

// answer is what most calls answer.
type answer struct {
	p uint64
	e api.Errno
}

// told makes an answer of what a call answered.
func told(p uint64, e api.Errno) answer { return answer{p, e} }

func wants(t *testing.T, what any, got, want answer) {
	t.Helper()
	if got != want {
		t.Fatalf("%v: %v, not %v", what, got, want)
	}
}

func wantsError(t *testing.T, what any, got, want api.Errno) {
	t.Helper()
	if got != want {
		t.Fatalf("%v: %v, not %v", what, got, want)
	}
}

// takes tells an owner's new block for size bytes.
func takes(t *testing.T, b *quota.Bank, owner int, size uint64) uint64 {
	t.Helper()
	p, e := b.Malloc(owner, size, false)
	wantsError(t, "Malloc", e, api.OK)
	return p
}

// takesMany tells count of them.
func takesMany(t *testing.T, b *quota.Bank, owner int, size uint64, count int) []uint64 {
	t.Helper()
	var list []uint64
	for range count {
		list = append(list, takes(t, b, owner, size))
	}
	return list
}

// frees gives an owner's blocks back, one after the other.
func frees(t *testing.T, b *quota.Bank, owner int, list ...uint64) {
	t.Helper()
	for _, p := range list {
		wantsError(t, "Free", b.Free(owner, p), api.OK)
	}
}

func wantsUsed(t *testing.T, b *quota.Bank, owner int, used, limit uint64) {
	t.Helper()
	if u, l, e := b.Used(owner); u != used || l != limit || e != api.OK {
		t.Fatalf("Used(%d): %d, %d, %v, not %d, %d", owner, u, l, e, used, limit)
	}
}

func wantsOwned(t *testing.T, b *quota.Bank, owner int, want ...api.Block) {
	t.Helper()
	if got, e := b.Owned(owner); e != api.OK || !slices.Equal(got, want) {
		t.Fatalf("Owned(%d): %v, %v, not %v", owner, got, e, want)
	}
}

func wantsOwners(t *testing.T, b *quota.Bank, want ...int) {
	t.Helper()
	if got := b.Owners(); !slices.Equal(got, want) {
		t.Fatalf("Owners: %v, not %v", got, want)
	}
}

func wantsLive(t *testing.T, b *quota.Bank, want ...api.Block) {
	t.Helper()
	if got := b.Heap().Live(); !slices.Equal(got, want) {
		t.Fatalf("the heap's Live: %v, not %v", got, want)
	}
}

// wantsBytes asks that an owner reads these at p.
func wantsBytes(t *testing.T, b *quota.Bank, owner int, p uint64, want []byte) {
	t.Helper()
	if got, e := b.Read(owner, p, uint64(len(want))); e != api.OK || !bytes.Equal(got, want) {
		t.Fatalf("Read(%d, %d, %d): %v, %v, not %v", owner, p, len(want), got, e, want)
	}
}

// wantsFault asks that an owner can neither read nor write n bytes at p.
func wantsFault(t *testing.T, b *quota.Bank, owner int, p uint64, n int) {
	t.Helper()
	if got, e := b.Read(owner, p, uint64(n)); len(got) != 0 || e != api.EFAULT {
		t.Fatalf("Read(%d, %d, %d): %v, %v", owner, p, n, got, e)
	}
	unchanged(t, "Write", b, func() {
		wantsError(t, "Write", b.Write(owner, p, bytes.Repeat([]byte{0xe5}, n)), api.EFAULT)
	})
}

// state is all that can be seen of a bank and its heap.
type state struct {
	owners []int
	used   [][2]uint64
	owned  [][]api.Block
	heap   api.Image
}

func stateOf(b *quota.Bank) state {
	is := state{owners: b.Owners(), heap: b.Heap().Image()}
	for _, owner := range is.owners {
		used, limit, _ := b.Used(owner)
		owned, _ := b.Owned(owner)
		is.used, is.owned = append(is.used, [2]uint64{used, limit}), append(is.owned, owned)
	}
	return is
}

// unchanged asks that something changes nothing.
func unchanged(t *testing.T, what any, b *quota.Bank, do func()) {
	t.Helper()
	ahead := stateOf(b)
	do()
	if !reflect.DeepEqual(stateOf(b), ahead) {
		t.Fatalf("%v has changed something", what)
	}
}

// refuses asks that a request is refused, and changes nothing.
func refuses(t *testing.T, what any, b *quota.Bank, e api.Errno, ask func() (uint64, api.Errno)) {
	t.Helper()
	unchanged(t, what, b, func() { wants(t, what, told(ask()), answer{0, e}) })
}

// refusesMalloc asks that of a Malloc.
func refusesMalloc(t *testing.T, b *quota.Bank, owner int, size uint64, deny bool, e api.Errno) {
	t.Helper()
	refuses(t, "Malloc", b, e, func() (uint64, api.Errno) { return b.Malloc(owner, size, deny) })
}

// refusesRealloc asks that of a Realloc.
func refusesRealloc(t *testing.T, b *quota.Bank, owner int, p, size uint64, deny bool, e api.Errno) {
	t.Helper()
	refuses(t, "Realloc", b, e, func() (uint64, api.Errno) { return b.Realloc(owner, p, size, deny) })
}

// refusesFree asks that of a Free.
func refusesFree(t *testing.T, b *quota.Bank, owner int, p uint64) {
	t.Helper()
	refuses(t, "Free", b, api.EINVAL, func() (uint64, api.Errno) { return 0, b.Free(owner, p) })
}

// refusesPass asks that of a Pass.
func refusesPass(t *testing.T, b *quota.Bank, owner int, p uint64, to int, e api.Errno) {
	t.Helper()
	refuses(t, "Pass", b, e, func() (uint64, api.Errno) { return 0, b.Pass(owner, p, to) })
}

// span is where a list lies, spare room too.
type span struct{ from, to uintptr }

// spanOf tells none of a list without room.
func spanOf[T any](list []T) []span {
	if cap(list) == 0 {
		return nil
	}
	is := reflect.ValueOf(list)
	return []span{{is.Pointer(), is.Pointer() + uintptr(cap(list))*is.Type().Elem().Size()}}
}

// wantsApart asks that no two of these share a byte.
func wantsApart(t *testing.T, what string, spans ...[]span) {
	t.Helper()
	all := slices.Concat(spans...)
	for i, one := range all {
		for _, other := range all[:i] {
			if one.from < other.to && other.from < one.to {
				t.Fatalf("%s: two lists share memory", what)
			}
		}
	}
}
