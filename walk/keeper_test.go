package walk_test

import (
	"bytes"
	"slices"
	"testing"

	"croft/api"
	"croft/malloc"
	"croft/walk"
)

// keeper holds a heap against T1 to T6, by what it answers alone: it knows the regions and the live blocks with what they hold, at first by Blocks and the image.
type keeper struct {
	t       *testing.T
	c       api.Config
	h       *malloc.Heap
	regions int
	live    map[uint64][]byte
}

func newKeeper(t *testing.T, im api.Image) *keeper {
	t.Helper()
	k := &keeper{t, im.Config, opened(t, im), im.Regions, map[uint64][]byte{}}
	for _, b := range walk.Blocks(im) {
		first := b.P - im.Config.Base
		k.live[b.P] = slices.Clone(im.Mem[first : first+b.Size])
	}
	return k
}

func (k *keeper) region() uint64 { return uint64(4096 * regionPages(k.c)) }

func (k *keeper) end() uint64 { return k.c.Base + uint64(k.regions)*k.region() }

// covered tells how many of size bytes from p on live blocks have.
func (k *keeper) covered(p, size uint64) uint64 {
	sum := uint64(0)
	for q, held := range k.live {
		if from, to := max(p, q), min(p+size, q+uint64(len(held))); from < to {
			sum += to - from
		}
	}
	return sum
}

// noFit is DOC.md's NoFit(r).
func (k *keeper) noFit(r uint64) bool {
	c := max(r, 4096)
	for p := k.c.Base; p < k.end(); p += c {
		if k.covered(p, c) == 0 {
			return false
		}
	}
	for p, held := range k.live {
		if r < 4096 && uint64(len(held)) == r && k.covered(p/4096*4096, 4096) < 4096 {
			return false
		}
	}
	return true
}

// sizeFor is the size for a request of s bytes at a multiple of a; 0, if it is above R.
func (k *keeper) sizeFor(s, a uint64) uint64 {
	r := uint64(16)
	for r < max(s, a) {
		r += r
	}
	if r > k.region() {
		return 0
	}
	return r
}

// waste is T4's inequality, asked where a call with the size r answered ENOMEM.
func (k *keeper) waste(r uint64) {
	k.t.Helper()
	c, m, small, sum := max(r, 4096), uint64(16), false, uint64(0)
	for _, held := range k.live {
		small = small || len(held) < 4096
		sum += uint64(len(held))
	}
	if r == 16 {
		m = 32
	}
	if !small {
		m = 4096
	}
	if c*sum < m*(k.end()-k.c.Base) {
		k.t.Fatalf("ENOMEM of the size %d, with %d bytes live", r, sum)
	}
}

// asked is T1, T2 and T4 of a request of the size r; it tells whether there is a new block, and enters it.
func (k *keeper) asked(r uint64, deny bool, p uint64, e api.Errno) bool {
	k.t.Helper()
	if r == 0 {
		k.is(e == api.ETOOBIG && p == 0, "ETOOBIG")
		return false
	}
	if k.noFit(r) {
		if deny || k.regions == k.c.Limit {
			k.is(e == api.ENOMEM && p == 0, "ENOMEM")
			k.waste(r)
			return false
		}
		k.regions++
	}
	k.is(e == api.OK, "an address")
	k.is(p%r == 0 && k.c.Base <= p && p+r <= k.end() && k.covered(p, r) == 0, "a block that meets none")
	held, e := k.h.Read(p, r)
	k.is(e == api.OK, "bytes of the new block")
	k.live[p] = held
	return true
}

func (k *keeper) is(holds bool, what string) {
	k.t.Helper()
	if !holds {
		k.t.Fatalf("not %s", what)
	}
}

func (k *keeper) malloc(size uint64, deny bool) {
	k.t.Helper()
	p, e := k.h.Malloc(size, deny)
	k.asked(k.sizeFor(size, 1), deny, p, e)
}

func (k *keeper) calloc(size uint64, deny bool) {
	k.t.Helper()
	p, e := k.h.Calloc(1, size, deny)
	if r := k.sizeFor(size, 1); k.asked(r, deny, p, e) {
		k.is(bytes.Equal(k.live[p], make([]byte, r)), "zeros")
	}
}

func (k *keeper) aligned(align, size uint64, deny bool) {
	k.t.Helper()
	p, e := k.h.AlignedAlloc(align, size, deny)
	k.asked(k.sizeFor(size, align), deny, p, e)
}

// realloc is T3 of a live block.
func (k *keeper) realloc(p, size uint64, deny bool) {
	k.t.Helper()
	old, r := k.live[p], k.sizeFor(size, 1)
	was := uint64(len(old))
	q, e := k.h.Realloc(p, size, deny)
	if r == was || 4096 <= r && r < was {
		k.is(q == p && e == api.OK, "the same block")
		k.live[p] = old[:r]
		return
	}
	if k.asked(r, deny, q, e) {
		n := min(r, was)
		k.is(bytes.Equal(k.live[q][:n], old[:n]), "the old block's bytes")
		delete(k.live, p)
	}
}

func (k *keeper) free(p uint64) {
	k.t.Helper()
	k.is(k.h.Free(p) == api.OK && k.h.Free(p) == api.EINVAL, "given back just once")
	delete(k.live, p)
}

// trim is T6's.
func (k *keeper) trim() {
	k.t.Helper()
	went := 0
	for k.regions > 0 && k.covered(k.end()-k.region(), k.region()) == 0 {
		k.regions--
		went++
	}
	k.is(k.h.Trim() == went, "just the regions that meet no live block")
}

func (k *keeper) store(p uint64, row *numbers) {
	k.t.Helper()
	held := k.live[p]
	for i := range held {
		held[i] = byte(row.below(256))
	}
	k.is(k.h.Write(p, held) == api.OK, "stored")
}

// call does one of the calls.
func (k *keeper) call(row *numbers) {
	k.t.Helper()
	want, deny := size(k.c, row), row.below(3) == 0
	live := k.h.Live()
	kind := row.below(20)
	if len(live) == 0 {
		kind %= 8
	}
	switch i := row.below(len(live)+1) % max(1, len(live)); {
	case kind == 0:
		k.trim()
	case kind < 6:
		k.malloc(want, deny)
	case kind == 6:
		k.calloc(want, deny)
	case kind == 7:
		k.aligned(1<<row.below(14), want, deny)
	case kind < 11:
		k.realloc(live[i].P, want, deny)
	case kind < 13:
		k.store(live[i].P, row)
	default:
		k.free(live[i].P)
	}
}

// check: T1, T5, T6: the live blocks are just these, with what they hold; H, L and the rest of Stats fit; the heap's image is sound.
func (k *keeper) check() {
	k.t.Helper()
	want := api.Stats{H: k.end() - k.c.Base, Blocks: len(k.live)}
	for p := k.c.Base; p < k.end(); p += 4096 {
		if k.covered(p, 4096) == 0 {
			want.FreePages++
		}
	}
	for p, held := range k.live {
		want.L += uint64(len(held))
		got, e := k.h.Read(p, uint64(len(held)))
		k.is(e == api.OK && bytes.Equal(got, held), "what was stored")
		r, e := k.h.UsableSize(p)
		k.is(e == api.OK && r == uint64(len(held)), "a block's size")
	}
	k.is(k.h.Stats() == want, "what is committed and live")
	list := k.h.Live()
	for i, b := range list {
		k.is(uint64(len(k.live[b.P])) == b.Size && (i == 0 || list[i-1].P < b.P), "the live blocks, rising")
	}
	k.is(len(list) == len(k.live), "all live blocks")
	soundAs(k.t, k.h)
}

// outside is T5's and T6's of addresses at which no live block is, or begins.
func (k *keeper) outside(row *numbers) {
	k.t.Helper()
	for range 20 {
		p := k.c.Base - 64 + uint64(row.below(int(k.end()-k.c.Base)+128))
		_, e := k.h.Load(p)
		k.is((e == api.OK) == (k.covered(p, 1) == 1), "bytes of live blocks alone")
		if k.live[p] == nil {
			k.is(k.h.Free(p) == api.EINVAL, "EINVAL")
		}
	}
}

// T10, P9.3: of sound images that no row of calls need have made the heaps keep T1 to T6; and their images stay sound.
func TestHeapsKeep(t *testing.T) {
	for seed := range 90 {
		row := numbers(seed)
		c := config(seed%9, 1+row.below(3))
		im := someImage(c, row.below(c.Limit+1), &row)
		wants(t, "sound", im, 0, 0)
		k := newKeeper(t, im)
		k.check()
		for range 60 >> (c.Order / 3) {
			k.call(&row)
			k.check()
		}
		k.outside(&row)
	}
}

// T10: and so do the heaps of those that stay sound though they were spoilt.
func TestSpoiltHeapsKeep(t *testing.T) {
	kept := 0
	for seed := range 3000 {
		row := numbers(seed)
		c := config(row.below(4), 3)
		im := someImage(c, row.below(4), &row)
		ahead := copied(im)
		spoil(&im, &row)
		if rule, _ := walk.Check(im); rule != 0 || same(im, ahead) {
			continue
		}
		kept++
		k := newKeeper(t, im)
		k.check()
		for range 12 {
			k.call(&row)
		}
		k.check()
	}
	if kept < 50 {
		t.Errorf("just %d stayed sound", kept)
	}
}
