package malloc_test

import (
	"bytes"
	"slices"
	"testing"

	"croft/api"
	"croft/malloc"
)

// owner uses a heap by what it answers alone: it knows the live blocks, what they hold and how many regions there are, and asks T1 to T6 of the rest.
type owner struct {
	t       *testing.T
	c       api.Config
	h       *malloc.Heap
	regions int
	live    []block
}

// block is a live one, with what was read from it when it was handed out, or stored there since.
type block struct {
	p, size uint64
	data    []byte
}

// newOwner makes one of a heap that may have live blocks already: it takes Live at its word.
func newOwner(t *testing.T, h *malloc.Heap) *owner {
	t.Helper()
	o := &owner{t: t, c: h.Config(), h: h}
	o.regions = int(h.Stats().H / regionBytes(o.c))
	for _, b := range h.Live() {
		o.hold(b.P, b.Size)
	}
	return o
}

func (o *owner) committed() uint64 { return uint64(o.regions) * regionBytes(o.c) }

func (o *owner) bytes() uint64 {
	sum := uint64(0)
	for _, b := range o.live {
		sum += b.size
	}
	return sum
}

// covered tells how many of size bytes from p on live blocks have, and the size of the last of these blocks.
func (o *owner) covered(p, size uint64) (sum, last uint64) {
	for _, b := range o.live {
		from, to := max(p, b.p), min(p+size, b.p+b.size)
		if from < to {
			sum += to - from
			last = b.size
		}
	}
	return sum, last
}

// noFit is DOC.md's NoFit(r).
func (o *owner) noFit(r uint64) bool {
	c := max(r, 4096)
	for p := o.c.Base; p < o.c.Base+o.committed(); p += c {
		if sum, _ := o.covered(p, c); sum == 0 {
			return false
		}
	}
	for _, b := range o.live {
		if r < 4096 && b.size == r {
			if sum, _ := o.covered(b.p-b.p%4096, 4096); sum < 4096 {
				return false
			}
		}
	}
	return true
}

// sizeFor is the size for a request of s bytes at a multiple of a; 0, if it is above R.
func (o *owner) sizeFor(s, a uint64) uint64 {
	r := uint64(16)
	for r < max(s, a) {
		if r == regionBytes(o.c) {
			return 0
		}
		r += r
	}
	return r
}

// asked holds an answer to a request of the size r against T1, T2 and T4, and remembers the block.
func (o *owner) asked(call string, r uint64, deny bool, p uint64, e api.Errno) bool {
	o.t.Helper()
	noFit := r > 0 && o.noFit(r)
	switch {
	case r == 0:
		o.want(call, answer{p, e}, answer{0, api.ETOOBIG})
		return false
	case noFit && (deny || o.regions == o.c.Limit):
		o.want(call, answer{p, e}, answer{0, api.ENOMEM})
		o.waste(r)
		return false
	case e != api.OK:
		o.t.Fatalf("%s, NoFit(%d): %v: %v", call, r, noFit, e)
	case noFit:
		o.regions++
	}
	sum, _ := o.covered(p, r)
	if p < o.c.Base || p%r != 0 || p+r > o.c.Base+o.committed() || sum > 0 {
		o.t.Fatalf("%s: %d is no block of %d committed bytes, or meets a live one", call, p, r)
	}
	o.hold(p, r)
	return true
}

// hold enters a new block, with what it holds.
func (o *owner) hold(p, r uint64) {
	o.t.Helper()
	held, e := o.h.Read(p, r)
	if e != api.OK {
		o.t.Fatalf("a live block of %d bytes at %d can't be read: %v", r, p, e)
	}
	o.live = append(o.live, block{p, r, held})
}

// waste is T4's inequality, asked where a call with the size r answered ENOMEM.
func (o *owner) waste(r uint64) {
	o.t.Helper()
	c, m := max(r, 4096), uint64(16)
	if r == 16 {
		m = 32
	}
	if !slices.ContainsFunc(o.live, func(b block) bool { return b.size < 4096 }) {
		m = 4096
	}
	if c*o.bytes() < m*o.committed() {
		o.t.Fatalf("ENOMEM of the size %d, with %d bytes live of %d", r, o.bytes(), o.committed())
	}
}

func (o *owner) want(call string, got, want answer) {
	o.t.Helper()
	if got != want {
		o.t.Fatalf("%s: %v, not %v", call, got, want)
	}
}

func (o *owner) malloc(size uint64, deny bool) bool {
	o.t.Helper()
	p, e := o.h.Malloc(size, deny)
	return o.asked("Malloc", o.sizeFor(size, 1), deny, p, e)
}

func (o *owner) calloc(size uint64, deny bool) {
	o.t.Helper()
	p, e := o.h.Calloc(size, 1, deny)
	if o.asked("Calloc", o.sizeFor(size, 1), deny, p, e) {
		if b := o.live[len(o.live)-1]; !bytes.Equal(b.data, make([]byte, b.size)) {
			o.t.Fatalf("Calloc: the block at %d is not all 0", p)
		}
	}
}

func (o *owner) aligned(align, size uint64, deny bool) {
	o.t.Helper()
	p, e := o.h.AlignedAlloc(align, size, deny)
	o.asked("AlignedAlloc", o.sizeFor(size, align), deny, p, e)
}

// realloc is T3 of the live block number i.
func (o *owner) realloc(i int, size uint64, deny bool) {
	o.t.Helper()
	old, r := o.live[i], o.sizeFor(size, 1)
	p, e := o.h.Realloc(old.p, size, deny)
	if r == old.size || 4096 <= r && r < old.size {
		o.want("Realloc", answer{p, e}, answer{old.p, api.OK})
		o.live[i] = block{p, r, old.data[:r]}
		return
	}
	if !o.asked("Realloc", r, deny, p, e) {
		return
	}
	n := min(r, old.size)
	if moved := o.live[len(o.live)-1]; !bytes.Equal(moved.data[:n], old.data[:n]) {
		o.t.Fatalf("Realloc from %d to %d: the bytes are others", old.p, p)
	}
	o.live = append(o.live[:i:i], o.live[i+1:]...)
}

func (o *owner) free(i int) {
	o.t.Helper()
	p := o.live[i].p
	o.want("Free", answer{0, o.h.Free(p)}, answer{})
	o.want("Free once more", answer{0, o.h.Free(p)}, answer{0, api.EINVAL})
	o.live = append(o.live[:i:i], o.live[i+1:]...)
}

// trim is T6: just the regions at the top go that meet no live block.
func (o *owner) trim() {
	o.t.Helper()
	want := 0
	for o.regions > 0 {
		r := regionBytes(o.c)
		if sum, _ := o.covered(o.c.Base+o.committed()-r, r); sum > 0 {
			break
		}
		o.regions--
		want++
	}
	if got := o.h.Trim(); got != want {
		o.t.Fatalf("Trim: %d, not %d", got, want)
	}
}

// store writes into a live block.
func (o *owner) store(i int, row *numbers) {
	o.t.Helper()
	b := o.live[i]
	at := uint64(row.below(int(b.size)))
	piece := bytes.Repeat([]byte{byte(row.below(256))}, 1+row.below(int(b.size-at)))
	o.want("Write", answer{0, o.h.Write(b.p+at, piece)}, answer{})
	copy(b.data[at:], piece)
}

// check: T1, T5, T6: the live blocks are just these, with what they hold, and so are H, L, and the pages that meet none.
func (o *owner) check() {
	o.t.Helper()
	var list []api.Block
	for _, b := range o.live {
		list = append(list, api.Block{P: b.p, Size: b.size})
		if got, e := o.h.Read(b.p, b.size); e != api.OK || !bytes.Equal(got, b.data) {
			o.t.Fatalf("the live block of %d bytes at %d does not hold what was stored: %v", b.size, b.p, e)
		}
		r, e := o.h.UsableSize(b.p)
		o.want("UsableSize", answer{r, e}, answer{b.size, api.OK})
	}
	slices.SortFunc(list, func(one, other api.Block) int { return int(one.P) - int(other.P) })
	if got := o.h.Live(); !slices.Equal(got, list) {
		o.t.Fatalf("Live: %v, not %v", got, list)
	}
	if got, want := o.h.Stats(), statsOf(o.c, o.regions, list); got != want {
		o.t.Fatalf("Stats: %+v, not %+v", got, want)
	}
}

// outside asks at addresses all over that just the live blocks' bytes may be read.
func (o *owner) outside(row *numbers) {
	o.t.Helper()
	for range 40 {
		p := o.c.Base - 64 + uint64(row.below(int(o.committed())+128))
		want := api.EFAULT
		if sum, _ := o.covered(p, 1); sum > 0 {
			want = api.OK
		}
		if _, e := o.h.Load(p); e != want {
			o.t.Fatalf("Load(%d): %v, not %v", p, e, want)
		}
	}
}

func (o *owner) call(row *numbers) {
	o.t.Helper()
	size, deny := row.size(o.c), row.below(3) == 0
	i := row.below(len(o.live) + 1)
	switch kind := row.below(20); {
	case kind == 0:
		o.trim()
	case kind < 7 || i == len(o.live):
		o.malloc(size, deny)
	case kind == 7:
		o.calloc(size, deny)
	case kind == 8:
		o.aligned(1<<row.below(14), size, deny)
	case kind < 12:
		o.realloc(i, size, deny)
	case kind < 15:
		o.store(i, row)
	default:
		o.free(i)
	}
}

// P8.8, T1 to T6: behind long rows of calls on a new heap, and when all is given back.
func TestWhatFollows(t *testing.T) {
	for seed := range 60 {
		row := numbers(seed)
		o := newOwner(t, newHeap(t, api.Config{Base: 1 << 20, Limit: 1 + seed%5, Order: seed % 4}))
		for range 250 {
			o.call(&row)
			o.check()
		}
		o.outside(&row)
		for len(o.live) > 0 {
			o.free(row.below(len(o.live)))
		}
		o.check()
		o.trim()
		if o.regions != 0 {
			t.Errorf("seed %d: all is given back, and regions are left", seed)
		}
	}
}

// P8.8, T1 to T6: the same of sound images that no row of calls need have made.
func TestWhatFollowsOfImages(t *testing.T) {
	for seed := range 60 {
		row := numbers(seed)
		im := used(t, api.Config{Base: 1 << 20, Limit: 1 + seed%5, Order: seed % 4}, seed).h.Image()
		relay(im, &row)
		o := newOwner(t, wantOpen(t, im))
		o.check()
		for range 150 {
			o.call(&row)
			o.check()
		}
		o.outside(&row)
	}
}

// relay lays all lists of a sound image anew, in another order, and other bytes where none matter: it stays sound.
func relay(im api.Image, row *numbers) {
	for order := range im.Heads {
		var list []uint64
		for page, is := range im.Pages {
			if is.Kind == api.PageFree && is.Order == order {
				list = append(list, im.Config.Base+4096*uint64(page))
				junk(im, list[len(list)-1]+16, 4096<<order-16, row)
			}
		}
		shuffle(list, row)
		for i, p := range list {
			around := slices.Concat([]uint64{0}, list, []uint64{0})
			setWord(im, p, around[i+2])
			setWord(im, p+8, around[i])
		}
		im.Heads[order] = append(list, 0)[0]
	}
	for class := range im.Partial {
		relayClass(im, class, row)
	}
}

// relayClass lays the partial list of a class anew, and the lists of cells on its pages.
func relayClass(im api.Image, class int, row *numbers) {
	var pages []int
	for page, is := range im.Pages {
		if is.Kind == api.PageSlab && is.Class == class && is.Live < 256>>class {
			pages = append(pages, page)
		}
	}
	shuffle(pages, row)
	around := slices.Concat([]int{-1}, pages, []int{-1})
	for i, page := range pages {
		im.Pages[page].Prev, im.Pages[page].Next = around[i], around[i+2]
		relayCells(im, page, row)
	}
	im.Partial[class] = around[1]
}

func relayCells(im api.Image, page int, row *numbers) {
	is := &im.Pages[page]
	size := uint64(16) << is.Class
	first := im.Config.Base + 4096*uint64(page)
	var cells []uint64
	for cell := range uint64(256 >> is.Class) {
		if is.Bits[cell/64]>>(cell%64)&1 == 0 {
			cells = append(cells, first+cell*size)
			junk(im, first+cell*size+8, size-8, row)
		}
	}
	shuffle(cells, row)
	for i, p := range cells {
		setWord(im, p, append(cells, 0)[i+1])
	}
	is.First = int((cells[0] - first) / size)
}

func shuffle[T any](list []T, row *numbers) {
	for i := range list {
		j := i + row.below(len(list)-i)
		list[i], list[j] = list[j], list[i]
	}
}

// junk writes over n bytes from p on.
func junk(im api.Image, p, n uint64, row *numbers) {
	for i := range n {
		im.Mem[p-im.Config.Base+i] = byte(row.below(256))
	}
}

// setWord sets the eight bytes from p on, the lowest first.
func setWord(im api.Image, p, word uint64) {
	for i := range uint64(8) {
		im.Mem[p-im.Config.Base+i] = byte(word % 256)
		word /= 256
	}
}
