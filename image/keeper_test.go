package image_test

import (
	"bytes"
	"slices"
	"testing"

	"croft/api"
	"croft/image"
	"croft/malloc"
	"croft/walk"
)

// keeper holds a heap against T1 to T6, by what it answers alone: it knows the regions and the live blocks with what they hold.
type keeper struct {
	t       *testing.T
	c       api.Config
	h       *malloc.Heap
	regions int
	live    map[uint64][]byte
}

// newKeeper makes one of the heap that was loaded of an image with these live blocks.
func newKeeper(t *testing.T, im api.Image, blocks []api.Block) *keeper {
	t.Helper()
	k := &keeper{t, im.Config, loads(t, im), im.Regions, map[uint64][]byte{}}
	for _, b := range blocks {
		first := b.P - im.Config.Base
		k.live[b.P] = slices.Clone(im.Mem[first : first+b.Size])
	}
	return k
}

func (k *keeper) region() uint64 { return uint64(4096 * regionPages(k.c)) }

func (k *keeper) end() uint64 { return k.c.Base + uint64(k.regions)*k.region() }

// covered tells how many of size bytes from p on live blocks have.
func (k *keeper) covered(p, size uint64) uint64 {
	sum := uint64(0)
	for q, held := range k.live {
		if from, to := max(p, q), min(p+size, q+uint64(len(held))); from < to {
			sum += to - from
		}
	}
	return sum
}

// noFit is DOC.md's NoFit(r).
func (k *keeper) noFit(r uint64) bool {
	c := max(r, 4096)
	for p := k.c.Base; p < k.end(); p += c {
		if k.covered(p, c) == 0 {
			return false
		}
	}
	for p, held := range k.live {
		if r < 4096 && uint64(len(held)) == r && k.covered(p/4096*4096, 4096) < 4096 {
			return false
		}
	}
	return true
}

// sizeFor is the size for a request of s bytes at a multiple of a; 0, if it is above R.
func (k *keeper) sizeFor(s, a uint64) uint64 {
	r := uint64(16)
	for r < max(s, a) {
		r += r
	}
	if r > k.region() {
		return 0
	}
	return r
}

func (k *keeper) is(holds bool, what string) {
	k.t.Helper()
	if !holds {
		k.t.Fatalf("not %s", what)
	}
}

// waste is T4's inequality, asked where a call with the size r answered ENOMEM.
func (k *keeper) waste(r uint64) {
	k.t.Helper()
	c, m, small, sum := max(r, 4096), uint64(16), false, uint64(0)
	for _, held := range k.live {
		small = small || len(held) < 4096
		sum += uint64(len(held))
	}
	if r == 16 {
		m = 32
	}
	if !small {
		m = 4096
	}
	k.is(c*sum >= m*(k.end()-k.c.Base), "so much waste")
}

// asked is T1, T2 and T4 of a request of the size r; it tells whether there is a new block, and enters it.
func (k *keeper) asked(r uint64, deny bool, p uint64, e api.Errno) bool {
	k.t.Helper()
	if r == 0 {
		k.is(e == api.ETOOBIG && p == 0, "ETOOBIG")
		return false
	}
	if k.noFit(r) {
		if deny || k.regions == k.c.Limit {
			k.is(e == api.ENOMEM && p == 0, "ENOMEM")
			k.waste(r)
			return false
		}
		k.regions++
	}
	k.is(e == api.OK, "an address")
	k.is(p%r == 0 && k.c.Base <= p && p+r <= k.end() && k.covered(p, r) == 0, "a block that meets none")
	held, e := k.h.Read(p, r)
	k.is(e == api.OK, "bytes of the new block")
	k.live[p] = held
	return true
}

// request does one of the calls for a new block.
func (k *keeper) request(kind int, size, align uint64, deny bool) {
	k.t.Helper()
	switch kind {
	case 0:
		p, e := k.h.Calloc(1, size, deny)
		r := k.sizeFor(size, 1)
		k.is(!k.asked(r, deny, p, e) || bytes.Equal(k.live[p], make([]byte, r)), "zeros")
	case 1:
		p, e := k.h.AlignedAlloc(align, size, deny)
		k.asked(k.sizeFor(size, align), deny, p, e)
	default:
		p, e := k.h.Malloc(size, deny)
		k.asked(k.sizeFor(size, 1), deny, p, e)
	}
}

// realloc is T3 of a live block.
func (k *keeper) realloc(p, size uint64, deny bool) {
	k.t.Helper()
	old, r := k.live[p], k.sizeFor(size, 1)
	was := uint64(len(old))
	q, e := k.h.Realloc(p, size, deny)
	if r == was || 4096 <= r && r < was {
		k.is(q == p && e == api.OK, "the same block")
		k.live[p] = old[:r]
		return
	}
	if k.asked(r, deny, q, e) {
		n := min(r, was)
		k.is(bytes.Equal(k.live[q][:n], old[:n]), "the old block's bytes")
		delete(k.live, p)
	}
}

func (k *keeper) free(p uint64) {
	k.t.Helper()
	k.is(k.h.Free(p) == api.OK && k.h.Free(p) == api.EINVAL, "given back just once")
	delete(k.live, p)
}

// trim is T6's.
func (k *keeper) trim() {
	k.t.Helper()
	went := 0
	for k.regions > 0 && k.covered(k.end()-k.region(), k.region()) == 0 {
		k.regions--
		went++
	}
	k.is(k.h.Trim() == went, "just the regions that meet no live block")
}

// store writes over a live block.
func (k *keeper) store(p uint64, row *numbers) {
	k.t.Helper()
	k.live[p] = row.bytes(len(k.live[p]))
	k.is(k.h.Write(p, k.live[p]) == api.OK, "stored")
}

// call does one of the calls.
func (k *keeper) call(row *numbers) {
	k.t.Helper()
	want, deny, align := size(k.c, row), row.below(3) == 0, uint64(1)<<row.below(14)
	live := k.h.Live()
	kind := row.below(20)
	if len(live) == 0 {
		kind %= 8
	}
	switch i := row.below(len(live)+1) % max(1, len(live)); {
	case kind == 0:
		k.trim()
	case kind < 8:
		k.request(kind-1, want, align, deny)
	case kind < 11:
		k.realloc(live[i].P, want, deny)
	case kind < 13:
		k.store(live[i].P, row)
	default:
		k.free(live[i].P)
	}
}

// check: T1, T5, T6: the live blocks are just these, with what they hold; H, L and the rest of Stats fit; what Save tells is sound.
func (k *keeper) check() {
	k.t.Helper()
	want := api.Stats{H: k.end() - k.c.Base, Blocks: len(k.live)}
	for p := k.c.Base; p < k.end(); p += 4096 {
		if k.covered(p, 4096) == 0 {
			want.FreePages++
		}
	}
	for p, held := range k.live {
		want.L += uint64(len(held))
		got, e := k.h.Read(p, uint64(len(held)))
		k.is(e == api.OK && bytes.Equal(got, held), "what was stored")
		r, e := k.h.UsableSize(p)
		k.is(e == api.OK && r == uint64(len(held)), "a block's size")
	}
	k.is(k.h.Stats() == want, "what is committed and live")
	list := k.h.Live()
	for i, b := range list {
		k.is(uint64(len(k.live[b.P])) == b.Size && (i == 0 || list[i-1].P < b.P), "the live blocks, rising")
	}
	k.is(len(list) == len(k.live), "all live blocks")
	wantsSound(k.t, image.Save(k.h), list)
}

// outside is T5's and T6's of addresses at which no live block is, or begins.
func (k *keeper) outside(row *numbers) {
	k.t.Helper()
	for range 20 {
		p := k.c.Base - 64 + uint64(row.below(int(k.end()-k.c.Base)+128))
		_, e := k.h.Load(p)
		k.is((e == api.OK) == (k.covered(p, 1) == 1), "bytes of live blocks alone")
		if k.live[p] == nil {
			k.is(k.h.Free(p) == api.EINVAL, "EINVAL")
		}
	}
}

// keeps asks a heap that was loaded for many calls.
func keeps(t *testing.T, im api.Image, blocks []api.Block, row *numbers) {
	t.Helper()
	k := newKeeper(t, im, blocks)
	k.check()
	for range 40 >> (im.Config.Order / 3) {
		k.call(row)
		k.check()
	}
	k.outside(row)
}

// P10.6, T10: of what Lay tells Load makes a heap that keeps T1 to T6.
func TestLaidHeapsKeep(t *testing.T) {
	for seed := range 72 {
		row := numbers(seed)
		c := config(seed%9, 1+row.below(3))
		regions := row.below(c.Limit + 1)
		blocks := drawn(c, regions, &row)
		list, held := shuffled(blocks, drawnContents(blocks, &row), &row)
		keeps(t, lays(t, c, regions, list, held), blocks, &row)
	}
}

// P10.6, T10: and so it does of sound images that neither calls nor Lay have made: their lists are in any order, with any bytes where none matter. They have bytes too, and what Save tells is the same.
func TestSoundHeapsKeep(t *testing.T) {
	for seed := range 72 {
		row := numbers(seed)
		c := config(seed%9, 1+row.below(3))
		regions := row.below(c.Limit + 1)
		blocks := drawn(c, regions, &row)
		im := laid(c, regions, blocks, nil)
		copy(im.Mem, row.bytes(len(im.Mem)))
		link(im, &row)
		wantsSound(t, im, blocks)
		wantsSame(t, "Parse of Bytes", parses(t, told(t, im)), im)
		wantsSame(t, "Save of Load", image.Save(loads(t, im)), im)
		keeps(t, im, blocks, &row)
	}
}

// spoil changes something of an image.
func spoil(im *api.Image, row *numbers) {
	if len(im.Pages) == 0 {
		return
	}
	number := row.below(len(im.Pages))
	list, ends := fields(im, number)
	i := row.below(len(list))
	switch row.below(8) {
	case 0, 1:
		*list[i] = from(ends[i][0], ends[i][1], row)
	case 2:
		im.Pages[number].Bits[row.below(4)] ^= 1 << row.below(64)
	case 3:
		im.Heads[row.below(len(im.Heads))] = im.Config.Base + 4096*uint64(number)
	case 4:
		im.Partial[row.below(8)] = from(-1, len(im.Pages)-1, row)
	case 5:
		im.Config.Limit += row.below(3) - 1
	default:
		im.Mem[row.below(len(im.Mem))] ^= 1 << row.below(8)
	}
}

// P10.2, T10: images that were spoilt: Load makes a heap just of those that chapter 9 finds sound, and it keeps T1 to T6.
func TestSpoiltHeapsKeep(t *testing.T) {
	met := map[api.Errno]int{}
	for seed := range 3000 {
		row := numbers(seed)
		c := config(row.below(4), 3)
		regions := row.below(4)
		im := laid(c, regions, drawn(c, regions, &row), nil)
		link(im, &row)
		spoil(&im, &row)
		rule, _ := walk.Check(im)
		want := api.EBROKEN
		switch rule {
		case 0:
			want = api.OK
		case 1:
			want = api.EINVAL
		case 2:
			want = api.EFORM
		}
		met[want]++
		if want != api.OK {
			refusesLoad(t, "spoilt", im, want)
			continue
		}
		k := newKeeper(t, im, walk.Blocks(im))
		k.check()
		if met[want]%8 == 0 {
			for range 8 {
				k.call(&row)
			}
			k.check()
		}
	}
	for _, e := range []api.Errno{api.OK, api.EFORM, api.EBROKEN} {
		if met[e] < 20 {
			t.Errorf("%v was met %d times", e, met[e])
		}
	}
}

// T4: its equality, of heaps that are laid as it says: k R / m blocks of m bytes of which those stay whose offset is a multiple of c.
func TestWasteOfLaidHeaps(t *testing.T) {
	for order := range 4 {
		c := config(order, 3)
		for r := uint64(16); r <= 4096<<order; r *= 2 {
			for _, m := range []uint64{16, 32, 4096} {
				if m < 4096 && (m == 32) != (r == 16) {
					continue
				}
				step := max(r, 4096)
				var blocks []api.Block
				for p := c.Base; p < c.Base+3*4096<<order; p += step {
					blocks = append(blocks, api.Block{P: p, Size: m})
				}
				h := loads(t, lays(t, c, 3, blocks, nil))
				if p, e := h.Malloc(r, true); p != 0 || e != api.ENOMEM {
					t.Errorf("Order %d, %d bytes: %d, %v", order, r, p, e)
				}
				if s := h.Stats(); step*s.L != m*s.H {
					t.Errorf("Order %d, %d bytes: %v", order, r, s)
				}
			}
		}
	}
}
