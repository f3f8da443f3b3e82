package vault_test

import (
	"bytes"
	"cmp"
	"slices"
	"testing"

	"croft/api"
	"croft/image"
	"croft/oracle"
	"croft/vault"
	"croft/walk"
)

// owned is what a client knows of a block of its own: what it was told, and what it wrote.
type owned struct {
	size uint64
	held []byte
	pins int
	p    uint64 // while it is pinned
}

// house is a vault with what its client knows. What must come of a call it tells by that, by how many regions there are, and by oracle.Least alone.
type house struct {
	t       *testing.T
	c       api.Config
	v       *vault.Vault
	regions int
	last    int
	blocks  map[int]*owned
}

func newHouse(t *testing.T, c api.Config) *house {
	t.Helper()
	return &house{t: t, c: c, v: newVault(t, c), blocks: map[int]*owned{}}
}

// least tells in how many regions the blocks can lie, and others.
func (h *house) least(more ...uint64) (int, bool) {
	var stay []api.Block
	for _, b := range h.blocks {
		if b.pins > 0 {
			stay = append(stay, api.Block{P: b.p, Size: b.size})
		} else {
			more = append(more, b.size)
		}
	}
	return oracle.Least(h.c, stay, more)
}

// malloc is T8, and T4 where it fails.
func (h *house) malloc(size uint64, deny bool) {
	h.t.Helper()
	r := sizeFor(h.c, size)
	m, can := h.least(r)
	handle, e := h.v.Malloc(size, deny)
	if !can || m > h.regions {
		if deny || h.regions == h.c.Limit {
			wantsError(h.t, "Malloc", e, api.ENOMEM)
			h.waste(r)
			return
		}
		h.regions++
	}
	wantsError(h.t, "Malloc", e, api.OK)
	h.last++
	if handle != h.last {
		h.t.Fatalf("Malloc: the handle %d, not %d", handle, h.last)
	}
	held, e := h.v.Read(handle, 0, r)
	wantsError(h.t, "Read of a new block", e, api.OK)
	h.blocks[handle] = &owned{size: r, held: held}
}

// waste is T4's inequality, asked where a call with the size r answered ENOMEM.
func (h *house) waste(r uint64) {
	h.t.Helper()
	c, m, sum := max(r, 4096), uint64(16), uint64(0)
	if r == 16 {
		m = 32
	}
	small := false
	for _, b := range h.blocks {
		sum += b.size
		small = small || b.size < 4096
	}
	if !small {
		m = 4096
	}
	if all := uint64(h.regions) * regionBytes(h.c); c*sum < m*all {
		h.t.Fatalf("ENOMEM of the size %d, with %d bytes live of %d", r, sum, all)
	}
}

func (h *house) compact() {
	h.t.Helper()
	m, can := h.least()
	if !can {
		h.t.Fatal("the blocks lie, and yet they can't")
	}
	wantsCompact(h.t, h.v, h.regions-m)
	h.regions = m
}

// call does one that is drawn.
func (h *house) call(row *numbers, pinning int) {
	h.t.Helper()
	kind := row.below(100)
	list := h.v.Handles()
	if kind < 45 || len(list) == 0 {
		h.malloc(row.size(h.c), row.below(2) == 0)
		return
	}
	handle := oneOf(row, list...)
	b := h.blocks[handle]
	switch {
	case kind < 60 && b.pins == 0:
		frees(h.t, h.v, handle)
		delete(h.blocks, handle)
	case kind < 60+pinning:
		p, e := h.v.Pin(handle)
		wantsError(h.t, "Pin", e, api.OK)
		if b.pins > 0 && b.p != p {
			h.t.Fatalf("the pinned block %d lies at %d, not %d", handle, p, b.p)
		}
		b.pins, b.p = b.pins+1, p
	case kind < 78 && b.pins > 0:
		unpins(h.t, h.v, handle)
		b.pins--
	case kind < 95:
		at := row.below(int(b.size))
		piece := row.bytes(1 + row.below(min(200, int(b.size)-at)))
		writes(h.t, h.v, handle, uint64(at), piece)
		copy(b.held[at:], piece)
	default:
		h.compact()
	}
}

// check: the handles are those that are known; each block holds what was written; pinned ones are where they were, in the image too; the heap's figures and its live blocks are those of the blocks; the image is sound, and a heap can be made of it.
func (h *house) check() {
	h.t.Helper()
	var live []api.Block
	want := api.Stats{H: uint64(h.regions) * regionBytes(h.c), Blocks: len(h.blocks)}
	im := h.v.Image()
	for _, handle := range h.v.Handles() {
		b := h.blocks[handle]
		if b == nil {
			h.t.Fatalf("the handle %d is no block's", handle)
		}
		wantsBytes(h.t, h.v, handle, 0, b.held)
		p := placeOf(h.t, h.v, handle)
		if b.pins > 0 && p != b.p {
			h.t.Fatalf("the pinned block %d lies at %d, not %d", handle, p, b.p)
		}
		if !bytes.Equal(im.Mem[p-h.c.Base:][:b.size], b.held) {
			h.t.Fatalf("the block %d is not at %d", handle, p)
		}
		live = append(live, api.Block{P: p, Size: b.size})
		want.L += b.size
	}
	if len(live) != len(h.blocks) || oracle.Sound(h.c, h.regions, live) != -1 {
		h.t.Fatalf("the blocks %v are not sound together, or too few", live)
	}
	slices.SortFunc(live, func(one, other api.Block) int { return cmp.Compare(one.P, other.P) })
	wantsSound(h.t, h.v)
	if got := walk.Blocks(im); !slices.Equal(got, live) {
		h.t.Fatalf("the heap's blocks: %v, not %v", got, live)
	}
	want.FreePages = h.regions<<h.c.Order - len(pagesMet(h.c, live))
	wantsStats(h.t, h.v, want)
}

// pagesMet tells the pages that meet blocks.
func pagesMet(c api.Config, live []api.Block) map[uint64]int {
	met := map[uint64]int{}
	for _, b := range live {
		for p := b.P / 4096 * 4096; p < b.P+b.Size; p += 4096 {
			met[p]++
		}
	}
	return met
}

// P16.9, T1, T4 to T6, T8, T10: behind long rows of calls, with nothing pinned and with some.
func TestWhatFollows(t *testing.T) {
	for seed := range 100 {
		row := numbers(seed)
		h := newHouse(t, config(seed%6, 1+seed%4))
		for range 200 {
			h.call(&row, []int{0, 3, 9}[seed%3])
			h.check()
		}
		for handle, b := range h.blocks {
			for range b.pins {
				unpins(t, h.v, handle)
			}
			frees(t, h.v, handle)
		}
		clear(h.blocks)
		h.check()
		h.compact()
		wantsStats(t, h.v, api.Stats{})
	}
}

// T1, T2, T5, T6: a vault all of whose blocks are pinned is a plain heap: nothing is ever laid anew, and ENOMEM comes just if Stuck says so.
func TestAllPinned(t *testing.T) {
	failed := 0
	for seed := range 60 {
		row := numbers(seed)
		c := config(seed%5, 1+seed%3)
		v, h := newVault(t, c), newHeap(t, c)
		for range 200 {
			if list := v.Handles(); len(list) > 0 && row.below(3) == 0 {
				handle := oneOf(&row, list...)
				p := placeOf(t, v, handle)
				unpins(t, v, handle)
				frees(t, v, handle)
				wantsError(t, "the heap's Free", h.Free(p), api.OK)
				continue
			}
			size, deny := row.size(c), row.below(2) == 0
			stuck := oracle.Stuck(c, v.Image().Regions, h.Live(), sizeFor(c, size), deny)
			handle, e := v.Malloc(size, deny)
			p, want := h.Malloc(size, deny)
			wantsError(t, "Malloc", e, want)
			if stuck != (e == api.ENOMEM) {
				t.Fatalf("Malloc(%d, %v): %v; it is stuck: %v", size, deny, e, stuck)
			}
			if stuck {
				failed++
				continue
			}
			pins(t, v, handle, p)
			writes(t, v, handle, 0, []byte("mine"))
			wantsError(t, "the heap's Write", h.Write(p, []byte("mine")), api.OK)
			if !same(v.Image(), h.Image()) {
				t.Fatal("the heap is another than a plain one")
			}
		}
	}
	if failed < 500 {
		t.Errorf("only %d failed", failed)
	}
}

// worst does on a new vault what T4 says, and pins what is left: k R / m calls Malloc(m), Free of each block whose offset is no multiple of c; then Malloc(r), denied.
func worst(t *testing.T, config api.Config, k, m, r uint64) {
	t.Helper()
	v := newVault(t, config)
	c := max(r, 4096)
	for _, handle := range takesAll(t, v, times(int(k*regionBytes(config)/m), m)...) {
		if p, _ := v.Pin(handle); (p-config.Base)%c != 0 {
			unpins(t, v, handle)
			frees(t, v, handle)
		}
	}
	refuses(t, v, r, true, api.ENOMEM)
	if got := v.Stats(); got.H != k*regionBytes(config) || c*got.L != m*got.H {
		t.Errorf("%+v: the size %d over blocks of %d: %+v", config, r, m, got)
	}
}

// T4: both bounds are met with equality, where nothing can be moved.
func TestWorst(t *testing.T) {
	for order := range 3 {
		c := config(order, 3)
		for k := uint64(1); k <= 3; k++ {
			for r := uint64(16); r <= regionBytes(c); r *= 2 {
				m := uint64(16)
				if r == 16 {
					m = 32
				}
				worst(t, c, k, m, r)
				worst(t, c, k, 4096, r)
			}
		}
	}
}

// T10: of what Image tells a heap can be made that is the same to the last byte, and hands out the same place next.
func TestImageIsAHeap(t *testing.T) {
	for seed := range 60 {
		row := numbers(seed)
		h := newHouse(t, config(seed%6, 1+seed%4))
		for range 120 {
			h.call(&row, 3)
		}
		im := h.v.Image()
		loaded, e := image.Load(im)
		wantsError(t, "Load", e, api.OK)
		if !same(image.Save(loaded), im) {
			t.Fatal("the heap that was loaded is another")
		}
		for size := uint64(16); size <= regionBytes(h.c); size *= 2 {
			if p, e := loaded.Malloc(size, true); e == api.OK {
				h.malloc(size, true)
				pins(t, h.v, h.last, p)
				unpins(t, h.v, h.last)
			}
		}
		if !same(image.Save(loaded), h.v.Image()) {
			t.Fatal("the heap that was loaded is another behind the same calls")
		}
	}
}
