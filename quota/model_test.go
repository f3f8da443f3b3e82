package quota_test

import (
	"bytes"
	"cmp"
	"math/big"
	"reflect"
	"slices"
	"testing"

	"croft/api"
	"croft/malloc"
	"croft/quota"
)

// entry says who owns a block.
type entry struct {
	owner int
	block api.Block
}

// book is a bank by the chapter's words: it has a heap of its own, on which it does just the calls that the chapter says, each owner's limit, and one plain list of who owns what, in the order in which it came.
type book struct {
	c       api.Config
	h       *malloc.Heap
	limits  map[int]uint64
	entries []entry
}

func number(x uint64) *big.Int { return new(big.Int).SetUint64(x) }

func (k *book) isNone(owner int) bool {
	_, is := k.limits[owner]
	return !is
}

// at tells where the entry of an owner's block stands; -1, if p starts none of its.
func (k *book) at(owner int, p uint64) int {
	return slices.IndexFunc(k.entries, func(x entry) bool { return x.owner == owner && x.block.P == p })
}

// owned tells an owner's blocks, rising.
func (k *book) owned(owner int) []api.Block {
	var list []api.Block
	for _, x := range k.entries {
		if x.owner == owner {
			list = append(list, x.block)
		}
	}
	slices.SortFunc(list, func(one, other api.Block) int { return cmp.Compare(one.P, other.P) })
	return list
}

// used tells an owner's bytes.
func (k *book) used(owner int) *big.Int {
	sum := new(big.Int)
	for _, b := range k.owned(owner) {
		sum.Add(sum, number(b.Size))
	}
	return sum
}

// above says whether used less some bytes and more some others is above an owner's limit, as reals.
func (k *book) above(owner int, less, more uint64) bool {
	sum := k.used(owner)
	sum.Sub(sum, number(less))
	return sum.Add(sum, number(more)).Cmp(number(k.limits[owner])) > 0
}

// sizeFor is the size for a request of size bytes; 0, if none is at most R.
func (k *book) sizeFor(size uint64) uint64 {
	for r := uint64(16); r <= regionBytes(k.c); r += r {
		if r >= size {
			return r
		}
	}
	return 0
}

// open is P14.2.
func (k *book) open(limit uint64) (int, api.Errno) {
	for n := range 64 {
		if k.isNone(n) {
			k.limits[n] = limit
			return n, api.OK
		}
	}
	return 0, api.ELIMIT
}

// close is P14.6.
func (k *book) close(owner int) (int, api.Errno) {
	if k.isNone(owner) {
		return 0, api.EINVAL
	}
	list := k.owned(owner)
	for _, b := range list {
		k.free(owner, b.P)
	}
	delete(k.limits, owner)
	return len(list), api.OK
}

// limit is P14.3.
func (k *book) limit(owner int, limit uint64) api.Errno {
	if k.isNone(owner) {
		return api.EINVAL
	}
	k.limits[owner] = limit
	return api.OK
}

// malloc is P14.4.
func (k *book) malloc(owner int, size uint64, deny bool) answer {
	r := k.sizeFor(size)
	switch {
	case k.isNone(owner):
		return answer{0, api.EINVAL}
	case r == 0:
		return answer{0, api.ETOOBIG}
	case k.above(owner, 0, r):
		return answer{0, api.EQUOTA}
	}
	a := told(k.h.Malloc(size, deny))
	if a.e == api.OK {
		k.entries = append(k.entries, entry{owner, api.Block{P: a.p, Size: r}})
	}
	return a
}

// realloc is P14.5.
func (k *book) realloc(owner int, p, size uint64, deny bool) answer {
	i, r := k.at(owner, p), k.sizeFor(size)
	switch {
	case k.isNone(owner):
		return answer{0, api.EINVAL}
	case p == 0:
		return k.malloc(owner, size, deny)
	case i < 0:
		return answer{0, api.EINVAL}
	case r == 0:
		return answer{0, api.ETOOBIG}
	case r > k.entries[i].block.Size && k.above(owner, k.entries[i].block.Size, r):
		return answer{0, api.EQUOTA}
	}
	a := told(k.h.Realloc(p, size, deny))
	if a.e == api.OK {
		k.entries[i].block = api.Block{P: a.p, Size: r}
	}
	return a
}

// free is P14.6.
func (k *book) free(owner int, p uint64) api.Errno {
	i := k.at(owner, p)
	switch {
	case k.isNone(owner):
		return api.EINVAL
	case p == 0:
		return api.OK
	case i < 0:
		return api.EINVAL
	}
	k.entries = slices.Delete(k.entries, i, i+1)
	return k.h.Free(p)
}

// pass is P14.7.
func (k *book) pass(owner int, p uint64, to int) api.Errno {
	i := k.at(owner, p)
	switch {
	case k.isNone(owner), k.isNone(to), i < 0:
		return api.EINVAL
	case to != owner && k.above(to, 0, k.entries[i].block.Size):
		return api.EQUOTA
	}
	k.entries[i].owner = to
	return api.OK
}

// bytesAt says of P14.8 whether an owner may read or write n bytes at p.
func (k *book) bytesAt(owner int, p, n uint64) api.Errno {
	if k.isNone(owner) {
		return api.EINVAL
	}
	if n == 0 {
		return api.OK
	}
	end := new(big.Int).Add(number(p), number(n))
	for _, b := range k.owned(owner) {
		if b.P <= p && end.Cmp(number(b.P+b.Size)) <= 0 {
			return api.OK
		}
	}
	return api.EFAULT
}

func (k *book) read(owner int, p, n uint64) ([]byte, api.Errno) {
	if e := k.bytesAt(owner, p, n); e != api.OK || n == 0 {
		return nil, e
	}
	return k.h.Read(p, n)
}

func (k *book) write(owner int, p uint64, data []byte) api.Errno {
	if e := k.bytesAt(owner, p, uint64(len(data))); e != api.OK || len(data) == 0 {
		return e
	}
	return k.h.Write(p, data)
}

// numbers tells the owners', rising.
func (k *book) numbers() []int {
	var list []int
	for n := range 64 {
		if !k.isNone(n) {
			list = append(list, n)
		}
	}
	return list
}

// both is a bank beside its book: each call is done on the two, and must answer one thing.
type both struct {
	t *testing.T
	b *quota.Bank
	k *book
}

func newBoth(t *testing.T, c api.Config) *both {
	t.Helper()
	return &both{t, newBank(t, c), &book{c: c, h: newHeap(t, c), limits: map[int]uint64{}}}
}

// same asks that two answers are one.
func same[T any](x *both, call string, got T, e api.Errno, want T, f api.Errno) T {
	x.t.Helper()
	if e != f || !reflect.DeepEqual(got, want) {
		x.t.Fatalf("%s: %v, %v, not %v, %v", call, got, e, want, f)
	}
	return got
}

func (x *both) open(limit uint64) int {
	x.t.Helper()
	got, e := x.b.Open(limit)
	want, f := x.k.open(limit)
	return same(x, "Open", got, e, want, f)
}

func (x *both) close(owner int) int {
	x.t.Helper()
	got, e := x.b.Close(owner)
	want, f := x.k.close(owner)
	return same(x, "Close", got, e, want, f)
}

func (x *both) limit(owner int, limit uint64) {
	x.t.Helper()
	wantsError(x.t, "Limit", x.b.Limit(owner, limit), x.k.limit(owner, limit))
}

func (x *both) malloc(owner int, size uint64, deny bool) answer {
	x.t.Helper()
	got := told(x.b.Malloc(owner, size, deny))
	wants(x.t, "Malloc", got, x.k.malloc(owner, size, deny))
	return got
}

func (x *both) realloc(owner int, p, size uint64, deny bool) answer {
	x.t.Helper()
	got := told(x.b.Realloc(owner, p, size, deny))
	wants(x.t, "Realloc", got, x.k.realloc(owner, p, size, deny))
	return got
}

func (x *both) free(owner int, p uint64) {
	x.t.Helper()
	wantsError(x.t, "Free", x.b.Free(owner, p), x.k.free(owner, p))
}

func (x *both) pass(owner int, p uint64, to int) {
	x.t.Helper()
	wantsError(x.t, "Pass", x.b.Pass(owner, p, to), x.k.pass(owner, p, to))
}

func (x *both) read(owner int, p, n uint64) {
	x.t.Helper()
	got, e := x.b.Read(owner, p, n)
	want, f := x.k.read(owner, p, n)
	if e != f || !bytes.Equal(got, want) {
		x.t.Fatalf("Read(%d, %d, %d): %v, %v, not %v, %v", owner, p, n, got, e, want, f)
	}
}

func (x *both) write(owner int, p uint64, data []byte) {
	x.t.Helper()
	wantsError(x.t, "Write", x.b.Write(owner, p, data), x.k.write(owner, p, data))
}

func (x *both) trim() {
	x.t.Helper()
	same(x, "Trim", x.b.Heap().Trim(), api.OK, x.k.h.Trim(), api.OK)
}

// check holds the owners, what each has, and the heap's live blocks against the book.
func (x *both) check() {
	x.t.Helper()
	wantsOwners(x.t, x.b, x.k.numbers()...)
	var all []api.Block
	for owner, limit := range x.k.limits {
		list := x.k.owned(owner)
		wantsOwned(x.t, x.b, owner, list...)
		wantsUsed(x.t, x.b, owner, x.k.used(owner).Uint64(), limit)
		all = append(all, list...)
	}
	slices.SortFunc(all, func(one, other api.Block) int { return cmp.Compare(one.P, other.P) })
	wantsLive(x.t, x.b, all...)
	same(x, "Stats", x.b.Heap().Stats(), api.OK, x.k.h.Stats(), api.OK)
}

// checkHeap asks that just the same was done on both heaps: every byte, list and page is the same.
func (x *both) checkHeap() {
	x.t.Helper()
	if !reflect.DeepEqual(x.b.Heap().Image(), x.k.h.Image()) {
		x.t.Fatal("the heap is another than the book's")
	}
}

// owner draws one, now and then one that is none.
func (x *both) owner(row *numbers) int {
	if list := x.k.numbers(); len(list) > 0 && row.below(20) != 0 {
		return oneOf(row, list...)
	}
	return oneOf(row, append(noOwners(), 0, 1, 5, 63)...)
}

// place draws an address: most often one at which a block of the owner's starts, else one of another's, or one within a block, near one, or anywhere.
func (x *both) place(owner int, row *numbers) uint64 {
	kind := row.below(20)
	if list := x.k.owned(owner); len(list) > 0 && kind < 14 {
		return oneOf(row, list...).P
	}
	if len(x.k.entries) > 0 && kind < 17 {
		return oneOf(row, x.k.entries...).block.P + uint64(oneOf(row, 0, 0, 0, 1, 8, 16, 32, 4096))
	}
	if kind < 19 {
		return x.k.c.Base + uint64(row.below(1<<14))*16
	}
	return oneOf(row, edges()...)
}

// newLimit draws one, often near what the owner uses.
func (x *both) newLimit(owner int, row *numbers) uint64 {
	used := x.k.used(owner).Uint64()
	switch row.below(4) {
	case 0:
		return oneOf(row, edges()...)
	case 1:
		return used + uint64(row.below(3)) - 1 // at 0 one below wraps round: no limit at all
	case 2:
		return used + 16<<row.below(8) - uint64(row.below(2))
	}
	return most - uint64(row.below(3))
}

// sizeOf draws a size for a request.
func (x *both) sizeOf(row *numbers) uint64 {
	if row.below(15) == 0 {
		return oneOf(row, edges()...)
	}
	return row.size(x.k.c)
}

// call does one that is drawn.
func (x *both) call(row *numbers) {
	x.t.Helper()
	owner := x.owner(row)
	p, size, deny := x.place(owner, row), x.sizeOf(row), row.below(3) == 0
	switch kind := row.below(60); {
	case kind < 18:
		x.malloc(owner, size, deny)
	case kind < 28:
		x.realloc(owner, p, size, deny)
	case kind < 36:
		x.free(owner, p)
	case kind < 42:
		x.pass(owner, p, x.owner(row))
	case kind < 46:
		x.read(owner, p+uint64(oneOf(row, 0, 0, 1, 15)), oneOf(row, 0, 1, 2, 15, 16, 17, 4096, size))
	case kind < 51:
		x.write(owner, p+uint64(oneOf(row, 0, 0, 1, 15)), row.bytes(oneOf(row, 0, 1, 15, 16, 17, 64, 300)))
	case kind < 55:
		x.limit(owner, x.newLimit(owner, row))
	case kind < 57:
		x.open(x.newLimit(-1, row))
	case kind == 57 && row.below(2) == 0:
		x.close(owner)
	case kind == 58:
		x.trim()
	}
}

// P14.1 to P14.9: behind long rows of calls, denied and not, each answers what the chapter says, and the books are right behind each.
func TestCalls(t *testing.T) {
	for seed := range 150 {
		row := numbers(seed)
		x := newBoth(t, config(seed%9, 1+seed%4))
		for range 1 + seed%5 {
			x.open(most)
		}
		for range 300 {
			x.call(&row)
			x.check()
		}
		x.checkHeap()
	}
}

// The same with as many owners as there may be, who come and go.
func TestCallsOfManyOwners(t *testing.T) {
	for seed := range 8 {
		row := numbers(seed)
		x := newBoth(t, config(4, 8))
		for range 64 {
			x.open(most)
		}
		for i := range 1500 {
			if row.below(20) == 0 {
				x.close(x.owner(&row))
			}
			if row.below(15) == 0 {
				x.open(oneOf[uint64](&row, 0, 64, 5000, most))
			}
			x.call(&row)
			if i%10 == 0 {
				x.check()
			}
		}
		x.check()
		x.checkHeap()
	}
}

// P14.4, P14.9: a heap that is full of the least blocks, of several owners: the books hold very many.
func TestCallsOfFullHeap(t *testing.T) {
	c := config(8, 4)
	b := newBank(t, c, most, most, 1<<20)
	count := [3]uint64{}
	for i := range 1 << 18 {
		owner := i % 3
		want := api.OK
		if owner == 2 && count[2] == 1<<16 {
			want = api.EQUOTA
		}
		_, e := b.Malloc(owner, 16, false)
		wantsError(t, i, e, want)
		if e == api.OK {
			count[owner]++
		}
	}
	for owner, limit := range []uint64{most, most, 1 << 20} {
		wantsUsed(t, b, owner, 16*count[owner], limit)
	}
	rest := 1<<18 - int(count[0]+count[1]+count[2])
	takesMany(t, b, 0, 1, rest)
	wants(t, "full", told(b.Malloc(0, 1, false)), answer{0, api.ENOMEM})
	wants(t, "full, and above the limit", told(b.Malloc(2, 1, false)), answer{0, api.EQUOTA})
	closes(t, b, 0, int(count[0])+rest)
	closes(t, b, 2, int(count[2]))
	wantsUsed(t, b, 1, 16*count[1], most)
	closes(t, b, 1, int(count[1]))
	wantsLive(t, b)
}
