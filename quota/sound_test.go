package quota_test

import (
	"bytes"
	"cmp"
	"slices"
	"testing"

	"croft/api"
	"croft/oracle"
	"croft/quota"
)

// view is what one owner knows: its limit, its blocks and what they hold, by its own calls and their answers and by what was passed to it; nothing of what others do.
type view struct {
	limit  uint64
	blocks []api.Block
	held   map[uint64][]byte // what was read from a block when it was handed out, or stored there since
}

func (v *view) used() uint64 {
	sum := uint64(0)
	for _, b := range v.blocks {
		sum += b.Size
	}
	return sum
}

// may says whether its limit has room for so many bytes more: limits are small enough here for a plain sum.
func (v *view) may(more uint64) bool { return v.used()+more <= v.limit }

func (v *view) come(b api.Block, held []byte) {
	v.blocks = append(v.blocks, b)
	v.held[b.P] = held
}

// gone forgets the block number i.
func (v *view) gone(i int) {
	delete(v.held, v.blocks[i].P)
	v.blocks = append(v.blocks[:i:i], v.blocks[i+1:]...)
}

// house is a bank with what its owners know, and how many regions there are. Whether a call answers EQUOTA, EINVAL, EFAULT it tells by the owner's view alone; ENOMEM, and that a region comes, by all live blocks.
type house struct {
	t       *testing.T
	c       api.Config
	b       *quota.Bank
	regions int
	views   []*view // by the owners' numbers
}

func newHouse(t *testing.T, c api.Config, limits ...uint64) *house {
	t.Helper()
	h := &house{t: t, c: c, b: newBank(t, c, limits...)}
	for _, limit := range limits {
		h.views = append(h.views, &view{limit: limit, held: map[uint64][]byte{}})
	}
	return h
}

func (h *house) live() []api.Block {
	var list []api.Block
	for _, v := range h.views {
		list = append(list, v.blocks...)
	}
	return list
}

func (h *house) committed() uint64 { return uint64(h.regions) * regionBytes(h.c) }

// placed holds an answer to a request that the owner may make against T1, T2 and T4, and remembers the block.
func (h *house) placed(call string, owner int, r uint64, deny bool, got answer) bool {
	h.t.Helper()
	if oracle.Stuck(h.c, h.regions, h.live(), r, deny) {
		wants(h.t, call, got, answer{0, api.ENOMEM})
		h.waste(r)
		return false
	}
	wantsError(h.t, call, got.e, api.OK)
	if oracle.NoFit(h.c, h.regions, h.live(), r) {
		h.regions++
	}
	held, e := h.b.Read(owner, got.p, r)
	wantsError(h.t, "Read of a new block", e, api.OK)
	h.views[owner].come(api.Block{P: got.p, Size: r}, held)
	if oracle.Sound(h.c, h.regions, h.live()) != -1 {
		h.t.Fatalf("%s: %d is no block of %d committed bytes, or meets another", call, got.p, r)
	}
	return true
}

// waste is T4's inequality, asked where a call with the size r answered ENOMEM.
func (h *house) waste(r uint64) {
	h.t.Helper()
	c, m := max(r, 4096), uint64(16)
	if r == 16 {
		m = 32
	}
	live, sum := h.live(), uint64(0)
	if !slices.ContainsFunc(live, func(b api.Block) bool { return b.Size < 4096 }) {
		m = 4096
	}
	for _, b := range live {
		sum += b.Size
	}
	if c*sum < m*h.committed() {
		h.t.Fatalf("ENOMEM of the size %d, with %d bytes live of %d", r, sum, h.committed())
	}
}

func (h *house) malloc(owner int, size uint64, deny bool) {
	h.t.Helper()
	got := told(h.b.Malloc(owner, size, deny))
	r, e := oracle.Round(h.c, size, 1)
	switch {
	case e != api.OK:
		wants(h.t, "Malloc", got, answer{0, e})
	case !h.views[owner].may(r):
		wants(h.t, "Malloc", got, answer{0, api.EQUOTA})
	default:
		h.placed("Malloc", owner, r, deny, got)
	}
}

// realloc is T3 of the owner's block number i.
func (h *house) realloc(owner, i int, size uint64, deny bool) {
	h.t.Helper()
	v := h.views[owner]
	old, ahead := v.blocks[i], v.held[v.blocks[i].P]
	got := told(h.b.Realloc(owner, old.P, size, deny))
	r, e := oracle.Round(h.c, size, 1)
	switch {
	case e != api.OK:
		wants(h.t, "Realloc", got, answer{0, e})
		return
	case r > old.Size && !v.may(r-old.Size):
		wants(h.t, "Realloc", got, answer{0, api.EQUOTA})
		return
	case r == old.Size, 4096 <= r && r < old.Size:
		wants(h.t, "Realloc", got, answer{old.P, api.OK})
		v.blocks[i].Size, v.held[old.P] = r, ahead[:r]
		return
	}
	if !h.placed("Realloc", owner, r, deny, got) {
		return
	}
	if n := min(r, old.Size); !bytes.Equal(v.held[got.p][:n], ahead[:n]) {
		h.t.Fatalf("Realloc from %d to %d: the bytes are others", old.P, got.p)
	}
	v.gone(i)
}

func (h *house) free(owner, i int) {
	h.t.Helper()
	v := h.views[owner]
	p := v.blocks[i].P
	wantsError(h.t, "Free", h.b.Free(owner, p), api.OK)
	wantsError(h.t, "Free once more", h.b.Free(owner, p), api.EINVAL)
	v.gone(i)
}

// pass hands the owner's block number i to another: it goes as it stands, with what it holds.
func (h *house) pass(owner, i, to int) {
	h.t.Helper()
	v, other := h.views[owner], h.views[to]
	block := v.blocks[i]
	got := h.b.Pass(owner, block.P, to)
	if to != owner && !other.may(block.Size) {
		wantsError(h.t, "Pass", got, api.EQUOTA)
		return
	}
	wantsError(h.t, "Pass", got, api.OK)
	held := v.held[block.P]
	v.gone(i)
	other.come(block, held)
}

func (h *house) store(owner, i int, row *numbers) {
	h.t.Helper()
	b := h.views[owner].blocks[i]
	at := row.below(int(b.Size))
	piece := row.bytes(1 + row.below(min(100, int(b.Size)-at)))
	wantsError(h.t, "Write", h.b.Write(owner, b.P+uint64(at), piece), api.OK)
	copy(h.views[owner].held[b.P][at:], piece)
}

// strange asks, at an address of another's, or within a block, or where none is, that the owner feels nothing there.
func (h *house) strange(owner int, row *numbers) {
	h.t.Helper()
	p := h.c.Base - 64 + uint64(row.below(int(h.committed())+128))
	if all := h.live(); len(all) > 0 && row.below(2) == 0 {
		p = oneOf(row, all...).P
	}
	mine := h.views[owner].blocks
	if !slices.ContainsFunc(mine, func(b api.Block) bool { return b.P == p }) {
		wants(h.t, "Realloc", told(h.b.Realloc(owner, p, 16, false)), answer{0, api.EINVAL})
		wantsError(h.t, "Free", h.b.Free(owner, p), api.EINVAL)
		wantsError(h.t, "Pass", h.b.Pass(owner, p, (owner+1)%len(h.views)), api.EINVAL)
	}
	want := api.EFAULT
	if slices.ContainsFunc(mine, func(b api.Block) bool { return b.P <= p && p < b.P+b.Size }) {
		want = api.OK
	}
	held, e := h.b.Read(owner, p, 1)
	wantsError(h.t, "Read", e, want)
	wantsError(h.t, "Write", h.b.Write(owner, p, append(held, 1)[:1]), want)
}

// trim is T6: just the regions at the top go that meet no block.
func (h *house) trim() {
	h.t.Helper()
	want := 0
	meets := func(b api.Block) bool { return int((b.P-h.c.Base)/regionBytes(h.c)) == h.regions-1 }
	for ; h.regions > 0 && !slices.ContainsFunc(h.live(), meets); h.regions-- {
		want++
	}
	if got := h.b.Heap().Trim(); got != want {
		h.t.Fatalf("Trim: %d, not %d", got, want)
	}
}

// check: each owner has just what it knows of, and what it stored; the heap's live blocks are all of these, and no others; H is as T2 and T3 say.
func (h *house) check() {
	h.t.Helper()
	rising := func(one, other api.Block) int { return cmp.Compare(one.P, other.P) }
	for owner, v := range h.views {
		wantsOwned(h.t, h.b, owner, slices.SortedFunc(slices.Values(v.blocks), rising)...)
		wantsUsed(h.t, h.b, owner, v.used(), v.limit)
		for _, b := range v.blocks {
			if got, e := h.b.Read(owner, b.P, b.Size); e != api.OK || !bytes.Equal(got, v.held[b.P]) {
				h.t.Fatalf("the block of %d bytes at %d does not hold what was stored: %v", b.Size, b.P, e)
			}
		}
	}
	wantsLive(h.t, h.b, slices.SortedFunc(slices.Values(h.live()), rising)...)
	if got := h.b.Heap().Stats().H; got != h.committed() {
		h.t.Fatalf("H is %d, not %d", got, h.committed())
	}
}

func (h *house) call(row *numbers) {
	h.t.Helper()
	owner := row.below(len(h.views))
	v := h.views[owner]
	size, deny, i := row.size(h.c), row.below(3) == 0, row.below(len(v.blocks)+1)
	switch kind := row.below(40); {
	case kind == 0:
		h.trim()
	case kind < 4:
		h.strange(owner, row)
	case kind < 6:
		v.limit = oneOf(row, v.used(), v.used()+size, v.used()/2, 1<<40, 1<<40)
		wantsError(h.t, "Limit", h.b.Limit(owner, v.limit), api.OK)
	case kind < 18 || i == len(v.blocks):
		h.malloc(owner, size, deny)
	case kind < 24:
		h.realloc(owner, i, size, deny)
	case kind < 28:
		h.store(owner, i, row)
	case kind < 32:
		h.pass(owner, i, row.below(len(h.views)))
	default:
		h.free(owner, i)
	}
}

// P14.9, T1 to T6: behind long rows of calls by several owners, and when all is given back.
func TestWhatFollows(t *testing.T) {
	for seed := range 160 {
		row := numbers(seed)
		h := newHouse(t, config(seed%5, 1+seed%6), make([]uint64, 1+seed%5)...)
		for owner := range h.views {
			h.views[owner].limit = 1 << 40
			wantsError(t, "Limit", h.b.Limit(owner, 1<<40), api.OK)
		}
		for range 200 + seed {
			h.call(&row)
			h.check()
		}
		for owner, v := range h.views {
			for len(v.blocks) > 0 {
				h.free(owner, row.below(len(v.blocks)))
			}
		}
		h.check()
		h.trim()
		if h.regions != 0 {
			t.Errorf("seed %d: all is given back, and regions are left", seed)
		}
	}
}

// worst does on a new bank what T4 says, with the blocks of several owners: k R / m calls Malloc(m), and Free of each block whose offset is no multiple of c; then Malloc(r), denied.
func worst(t *testing.T, config api.Config, k, m, r uint64) {
	t.Helper()
	b := newBank(t, config, most, most, most)
	c := max(r, 4096)
	owners := map[uint64]int{}
	for i := range int(k * regionBytes(config) / m) {
		owners[takes(t, b, i%3, m)] = i % 3
	}
	for p, owner := range owners {
		if (p-config.Base)%c != 0 {
			frees(t, b, owner, p)
		}
	}
	wants(t, r, told(b.Malloc(1, r, true)), answer{0, api.ENOMEM})
	if got := b.Heap().Stats(); got.H != k*regionBytes(config) || c*got.L != m*got.H {
		t.Errorf("%+v: the size %d over blocks of %d: %+v", config, r, m, got)
	}
}

// T4: both bounds are met with equality.
func TestWorst(t *testing.T) {
	for order := range 4 {
		c := config(order, 3)
		for k := uint64(1); k <= 3; k++ {
			for r := uint64(16); r <= regionBytes(c); r *= 2 {
				m := uint64(16)
				if r == 16 {
					m = 32
				}
				worst(t, c, k, m, r)
				worst(t, c, k, 4096, r)
			}
		}
	}
}
