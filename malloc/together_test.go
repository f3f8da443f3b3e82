package malloc_test

import (
	"bytes"
	"slices"
	"sync"
	"testing"

	"croft/api"
	"croft/malloc"
)

// user is a goroutine's: it knows its own blocks alone, and must not feel the others.
type user struct {
	h     *malloc.Heap
	mark  byte
	mine  map[uint64]uint64 // for each of its blocks the size
	wrong string
}

func (u *user) fail(what string) {
	if u.wrong == "" {
		u.wrong = what
	}
}

func (u *user) take(p uint64, e api.Errno) {
	if e == api.ENOMEM {
		return
	}
	r, f := u.h.UsableSize(p)
	if e != api.OK || f != api.OK {
		u.fail("a new block is not live")
		return
	}
	u.mine[p] = r
	if u.h.Write(p, bytes.Repeat([]byte{u.mark}, int(r))) != api.OK {
		u.fail("a new block can't be written")
	}
}

func (u *user) holds(p, n uint64) {
	held, e := u.h.Read(p, n)
	if e != api.OK || !bytes.Equal(held, bytes.Repeat([]byte{u.mark}, int(n))) {
		u.fail("a block does not hold what was stored")
	}
}

func (u *user) one(row *numbers) uint64 {
	list := slices.Sorted(func(yield func(uint64) bool) {
		for p := range u.mine {
			if !yield(p) {
				return
			}
		}
	})
	if len(list) == 0 {
		return 0
	}
	return list[row.below(len(list))]
}

func (u *user) call(row *numbers) {
	p := u.one(row)
	size := uint64(1) << row.below(14)
	switch kind := row.below(10); {
	case kind < 4 || p == 0:
		u.take(u.h.Malloc(size, false))
	case kind == 4:
		q, e := u.h.Realloc(p, size, false)
		if e == api.OK {
			r, _ := u.h.UsableSize(q)
			u.holds(q, min(r, u.mine[p]))
			delete(u.mine, p)
			u.take(q, e)
		}
	case kind == 5:
		u.h.Trim()
		u.h.Stats()
		u.h.Live()
		u.h.Image()
		u.h.Config()
	case kind == 6:
		word, e := u.h.LoadWord(p)
		if e != api.OK || byte(word) != u.mark || u.h.StoreWord(p, word) != api.OK {
			u.fail("a word is not what was stored")
		}
		v, e := u.h.Load(p)
		if e != api.OK || v != u.mark || u.h.Store(p, v) != api.OK {
			u.fail("a byte is not what was stored")
		}
	default:
		u.holds(p, u.mine[p])
		delete(u.mine, p)
		if u.h.Free(p) != api.OK {
			u.fail("a live block can't be given back")
		}
	}
}

// P8.8: several goroutines over one heap, each call as if it were alone: nobody feels the others, and in the end the heap has just what they have.
func TestTogether(t *testing.T) {
	h := newHeap(t, api.Config{Base: 1 << 20, Limit: 16, Order: 2})
	users := make([]user, 8)
	var all sync.WaitGroup
	for i := range users {
		users[i] = user{h: h, mark: byte(i + 1), mine: map[uint64]uint64{}}
		all.Go(func() {
			row := numbers(i)
			for range 1500 {
				users[i].call(&row)
			}
		})
	}
	all.Wait()
	var want []api.Block
	for i := range users {
		if users[i].wrong != "" {
			t.Errorf("user %d: %s", i, users[i].wrong)
		}
		for p, r := range users[i].mine {
			want = append(want, api.Block{P: p, Size: r})
		}
	}
	slices.SortFunc(want, func(one, other api.Block) int { return int(one.P) - int(other.P) })
	if got := h.Live(); !slices.Equal(got, want) {
		t.Errorf("Live: %v, not %v", got, want)
	}
	newOwner(t, h).check()
}

// P8.8: goroutines that ask for more than there is: just as many blocks are handed out as there are, each once; and each goes once, whoever asks for it.
func TestScarce(t *testing.T) {
	for _, r := range []uint64{16, 512, 4096} {
		c := api.Config{Base: 1 << 20, Limit: 2, Order: 2}
		h := newHeap(t, c)
		count := int(2 * regionBytes(c) / r)
		got := make([][]uint64, 6)
		together(6, func(i int) {
			for p, e := h.Malloc(r, false); e == api.OK; p, e = h.Malloc(r, false) {
				got[i] = append(got[i], p)
			}
		})
		all := slices.Sorted(slices.Values(slices.Concat(got...)))
		if len(all) != count || len(slices.Compact(slices.Clone(all))) != count {
			t.Fatalf("%d blocks of %d bytes, not %d", len(all), r, count)
		}
		gone := make([]int, 6)
		together(6, func(i int) {
			for _, p := range all {
				if h.Free(p) == api.OK {
					gone[i]++
				}
			}
		})
		sum := 0
		for _, n := range gone {
			sum += n
		}
		if s := h.Stats(); sum != count || s.Blocks != 0 || s.L != 0 {
			t.Errorf("%d of %d blocks went: %+v", sum, count, s)
		}
		regions := make([]int, 6)
		together(6, func(i int) { regions[i] = h.Trim() })
		if slices.Max(regions) != 2 || h.Stats() != (api.Stats{}) {
			t.Errorf("Trim: %v", regions)
		}
	}
}

func together(n int, do func(i int)) {
	var all sync.WaitGroup
	for i := range n {
		all.Go(func() { do(i) })
	}
	all.Wait()
}

// P8.8, R5: two heaps of one Config know nothing of one another.
func TestTwo(t *testing.T) {
	c := api.Config{Base: 1 << 20, Limit: 3, Order: 1}
	one, other := newBoth(t, c), newBoth(t, c)
	row := numbers(5)
	for range 200 {
		one.call(&row)
		other.check()
		other.call(&row)
		one.check()
	}
}

// R5: two heaps of other Configs that lie at the same addresses, and the address of the one's block asked of the other.
func TestTwoConfigs(t *testing.T) {
	one := newBoth(t, api.Config{Base: 1 << 20, Limit: 3, Order: 1})
	other := newBoth(t, api.Config{Base: 1 << 20, Limit: 1, Order: 3})
	p := one.takes(64)[0]
	other.refusedFree(p)
	other.faults(p)
	other.refusedRealloc(p, 64, false, api.EINVAL)
	other.is(other.malloc(32768, false), answer{p, api.OK})
	one.is(one.usable(p), answer{64, api.OK})
	other.fill(p, 7)
	one.check()
	other.frees(p)
	one.is(one.usable(p), answer{64, api.OK})
}
