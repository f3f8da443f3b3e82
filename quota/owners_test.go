package quota_test

import (
	"testing"

	"croft/api"
	"croft/malloc"
	"croft/quota"
)

// P14.1: Configs that may not be; and those at the limits, that may.
func TestConfigs(t *testing.T) {
	for _, c := range []api.Config{
		{}, {Base: 0, Limit: 2, Order: 1}, {Base: 4096, Limit: 2, Order: 1}, {Base: 65537, Limit: 2, Order: 1},
		{Base: 65536, Limit: 0, Order: 1}, {Base: 65536, Limit: -1, Order: 1}, {Base: 65536, Limit: 65, Order: 1},
		{Base: 1 << 20, Limit: 1, Order: 9}, {Base: 65536, Limit: 1, Order: -1}, {Base: 1 << 20, Limit: 5, Order: 8},
		{Base: 1 << 63, Limit: 1, Order: 0}, {Base: 1<<63 - 4096, Limit: 2, Order: 0}, {Base: 1<<64 - 4096, Limit: 1, Order: 0},
		{Base: 65536, Limit: 1 << 62, Order: 1}, {Base: 65536, Limit: 1, Order: 1 << 62}, {Base: 65536, Limit: 33, Order: 5},
	} {
		if b, e := quota.New(c); b != nil || e != api.EINVAL {
			t.Errorf("New(%+v): %v, %v", c, b, e)
		}
	}
	for _, c := range []api.Config{
		{Base: 4096, Limit: 64, Order: 0}, {Base: 1 << 20, Limit: 4, Order: 8}, {Base: 1<<63 - 4096, Limit: 1, Order: 0}, {Base: 1<<63 - 1<<22, Limit: 4, Order: 8},
	} {
		b := newBank(t, c, most)
		if b.Heap().Config() != c {
			t.Errorf("the heap's Config is %+v, not %+v", b.Heap().Config(), c)
		}
		wants(t, c, told(b.Malloc(0, 1, false)), answer{c.Base, api.OK})
		wantsError(t, "Write", b.Write(0, c.Base, []byte("sixteen bytes...")), api.OK)
		wantsBytes(t, b, 0, c.Base, []byte("sixteen bytes..."))
		wantsFault(t, b, 0, c.Base+15, 2)
	}
}

// P14.1: a new one has an empty heap, and no owners.
func TestNewIsEmpty(t *testing.T) {
	for order := range 9 {
		b := newBank(t, config(order, 64))
		wantsOwners(t, b)
		wantsLive(t, b)
		if s := b.Heap().Stats(); s != (api.Stats{}) || b.Heap().Trim() != 0 {
			t.Errorf("order %d: it is not empty: %+v", order, s)
		}
		refusesMalloc(t, b, 0, 1, false, api.EINVAL)
	}
}

// P14.2: MaxOwners owners, and one more; whoever goes makes room for one.
func TestAsManyAsThereMayBe(t *testing.T) {
	b := newBank(t, example())
	var all []int
	for i := range 64 {
		opens(t, b, uint64(i)*100, i)
		all = append(all, i)
		wantsOwners(t, b, all...)
		wantsUsed(t, b, i, 0, uint64(i)*100)
		wantsOwned(t, b, i)
	}
	for _, limit := range []uint64{0, 1, most} {
		unchanged(t, "one more", b, func() {
			if got, e := b.Open(limit); got != 0 || e != api.ELIMIT {
				t.Errorf("Open: %d, %v", got, e)
			}
		})
	}
	for _, i := range []int{63, 0, 31} {
		closes(t, b, i, 0)
		opens(t, b, 7, i)
		wantsUsed(t, b, i, 0, 7)
		if got, e := b.Open(7); got != 0 || e != api.ELIMIT {
			t.Errorf("Open: %d, %v", got, e)
		}
	}
	wantsOwners(t, b, all...)
}

// P14.2: the number is the least that no owner has, behind owners that went in the midst, at the front and at the end.
func TestLeastNumber(t *testing.T) {
	b := newBank(t, example(), 0, 1, 2, 3, 4)
	for _, owner := range []int{3, 1} {
		closes(t, b, owner, 0)
	}
	wantsOwners(t, b, 0, 2, 4)
	opens(t, b, 9, 1)
	wantsOwners(t, b, 0, 1, 2, 4)
	opens(t, b, 9, 3)
	opens(t, b, 9, 5)
	for _, owner := range []int{5, 0, 4} {
		closes(t, b, owner, 0)
	}
	wantsOwners(t, b, 1, 2, 3)
	opens(t, b, 9, 0)
	opens(t, b, 9, 4)
	wantsOwners(t, b, 0, 1, 2, 3, 4)
	for _, owner := range []int{2, 4, 0, 3, 1} {
		closes(t, b, owner, 0)
	}
	wantsOwners(t, b)
	opens(t, b, 9, 0)
}

// P14.2: who has a number that another one had, has nothing of what that one had.
func TestNewOwnerOwnsNothing(t *testing.T) {
	b := newBank(t, example(), 64, 100)
	list := takesMany(t, b, 0, 16, 3)
	closes(t, b, 0, 3)
	opens(t, b, 48, 0)
	wantsUsed(t, b, 0, 0, 48)
	wantsOwned(t, b, 0)
	for _, p := range list {
		refusesFree(t, b, 0, p)
		refusesRealloc(t, b, 0, p, 1, false, api.EINVAL)
		refusesPass(t, b, 0, p, 1, api.EINVAL)
		wantsFault(t, b, 0, p, 1)
	}
	takesMany(t, b, 0, 16, 3)
	refusesMalloc(t, b, 0, 16, false, api.EQUOTA)
}

// byOwner are the calls that name an owner, with arguments that may be wrong in other ways too; each tells whether all that it answered beside the error is its zero value.
func byOwner(p, size uint64, other int, deny bool) map[string]func(b *quota.Bank, owner int) (bool, api.Errno) {
	return map[string]func(b *quota.Bank, owner int) (bool, api.Errno){
		"Close": func(b *quota.Bank, owner int) (bool, api.Errno) { n, e := b.Close(owner); return n == 0, e },
		"Limit": func(b *quota.Bank, owner int) (bool, api.Errno) { return true, b.Limit(owner, size) },
		"Malloc": func(b *quota.Bank, owner int) (bool, api.Errno) {
			q, e := b.Malloc(owner, size, deny)
			return q == 0, e
		},
		"Realloc": func(b *quota.Bank, owner int) (bool, api.Errno) {
			q, e := b.Realloc(owner, p, size, deny)
			return q == 0, e
		},
		"Free": func(b *quota.Bank, owner int) (bool, api.Errno) { return true, b.Free(owner, p) },
		"Pass": func(b *quota.Bank, owner int) (bool, api.Errno) { return true, b.Pass(owner, p, other) },
		"Read": func(b *quota.Bank, owner int) (bool, api.Errno) {
			l, e := b.Read(owner, p, size)
			return len(l) == 0, e
		},
		"Write": func(b *quota.Bank, owner int) (bool, api.Errno) {
			return true, b.Write(owner, p, make([]byte, min(size, 20)))
		},
		"Used":  func(b *quota.Bank, owner int) (bool, api.Errno) { u, l, e := b.Used(owner); return u == 0 && l == 0, e },
		"Owned": func(b *quota.Bank, owner int) (bool, api.Errno) { l, e := b.Owned(owner); return len(l) == 0, e },
	}
}

// P14.2, R2: every call of an owner that is none, be it one that was closed, is EINVAL, ahead of all else: of a wrong address, a size that is too big, no bytes, a limit, a heap without room.
func TestOwnerThatIsNone(t *testing.T) {
	b := newBank(t, example(), 0, most, 100, 100)
	p := takes(t, b, 1, 8192)
	takes(t, b, 1, 8192)
	closes(t, b, 2, 0)
	for _, owner := range append(noOwners(), 2, 4, 63) {
		for _, at := range []uint64{0, p, p + 1, most} {
			for _, size := range []uint64{0, 1, 8192, 8193, most} {
				for _, other := range []int{1, 2, owner} {
					for name, call := range byOwner(at, size, other, size == 1) {
						zero, e := call(b, owner)
						if !zero || e != api.EINVAL {
							t.Fatalf("%s of the owner %d, %d, %d: %v, %v", name, owner, at, size, zero, e)
						}
					}
				}
			}
		}
	}
	wantsOwners(t, b, 0, 1, 3)
	wantsUsed(t, b, 1, 16384, most)
	wantsUsed(t, b, 0, 0, 0)
	wantsUsed(t, b, 3, 0, 100)
}

// P14.2, R3: and it changes nothing.
func TestOwnerThatIsNoneChangesNothing(t *testing.T) {
	b := newBank(t, example(), 100, 100)
	p := takes(t, b, 1, 60)
	closes(t, b, 0, 0)
	for _, owner := range []int{0, -1, 64} {
		for name, call := range byOwner(p, 16, 1, false) {
			unchanged(t, name, b, func() { call(b, owner) })
		}
	}
}

// R1: on a bank without owners, too, all arguments are taken.
func TestNoOwners(t *testing.T) {
	b := newBank(t, example())
	for _, owner := range append(noOwners(), 0, 1, 63) {
		for _, p := range edges() {
			for _, size := range edges() {
				for name, call := range byOwner(p, size, owner, false) {
					if zero, e := call(b, owner); !zero || e != api.EINVAL {
						t.Fatalf("%s of the owner %d, %d, %d: %v, %v", name, owner, p, size, zero, e)
					}
				}
			}
		}
	}
	if b.Heap().Stats() != (api.Stats{}) {
		t.Error("something has changed")
	}
}

// R1: an owner's calls with all numbers at which something may change: each ends, and answers as the book's.
func TestEdges(t *testing.T) {
	for _, limit := range edges() {
		x := newBoth(t, example())
		x.open(limit)
		x.open(most)
		near := []uint64{65536 - 16, 65536, 65536 + 15, 65536 + 16, 69632, 73728, 81920 - 16, 81920}
		for _, p := range append(near, edges()...) {
			for i, n := range edges() {
				owner := i % 2
				x.malloc(owner, n, false)
				x.read(owner, p, n)
				x.write(owner, p, make([]byte, min(n, 5000)))
				x.realloc(owner, p, n, i%3 == 0)
				x.pass(owner, p, 1-owner)
				x.free(1-owner, p)
				x.limit(0, limit^n)
			}
			x.check()
		}
		x.checkHeap()
	}
}

// P14.1: Heap is the heap on which the owners' blocks lie, the same each time; what changes nothing may be asked of it, and Trim.
func TestHeap(t *testing.T) {
	b := newBank(t, example(), most, most)
	h := b.Heap()
	p, q := takes(t, b, 0, 60), takes(t, b, 1, 8192)
	wantsError(t, "Write", b.Write(0, p, []byte("croft")), api.OK)
	if b.Heap() != h || h.Config() != example() || h.Stats() != (api.Stats{H: 16384, L: 8256, Blocks: 2, FreePages: 1}) {
		t.Errorf("the heap: %+v", h.Stats())
	}
	unchanged(t, "looking", b, func() { looks(t, h, p) })
	if got := h.Trim(); got != 0 {
		t.Errorf("Trim with a block at the top: %d", got)
	}
	frees(t, b, 1, q)
	if got := h.Trim(); got != 1 || h.Stats() != (api.Stats{H: 8192, L: 64, Blocks: 1, FreePages: 1}) {
		t.Errorf("Trim: %d, %+v", got, h.Stats())
	}
	wantsUsed(t, b, 0, 64, most)
	wantsBytes(t, b, 0, p, []byte("croft"))
	refusesFree(t, b, 1, q)
	refusesMalloc(t, b, 1, 8192, true, api.ENOMEM)
	wants(t, "it comes again", told(b.Malloc(1, 8192, false)), answer{q, api.OK})
	closes(t, b, 0, 1)
	closes(t, b, 1, 1)
	if got := h.Trim(); got != 2 || h.Stats() != (api.Stats{}) {
		t.Errorf("Trim: %d, %+v", got, h.Stats())
	}
}

// looks asks a heap all that changes nothing, of a block that holds "croft".
func looks(t *testing.T, h *malloc.Heap, p uint64) {
	t.Helper()
	size, e := h.UsableSize(p)
	held, f := h.Read(p, 5)
	first, g := h.Load(p)
	if size != 64 || e != api.OK || string(held) != "croft" || f != api.OK || first != 'c' || g != api.OK {
		t.Errorf("%d, %v, %q, %v, %c, %v", size, e, held, f, first, g)
	}
	if _, e := h.LoadWord(p + 57); e != api.EFAULT {
		t.Errorf("LoadWord past the end: %v", e)
	}
	h.Live()
	h.Stats()
	h.Image()
	h.Config()
}
