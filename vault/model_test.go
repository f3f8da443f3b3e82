package vault_test

import (
	"bytes"
	"cmp"
	"slices"
	"testing"

	"croft/api"
	"croft/image"
	"croft/malloc"
	"croft/oracle"
	"croft/vault"
)

// entry is a block in a plain book.
type entry struct {
	handle, pins int
	at           api.Block
	held         []byte
}

// blocksOf tells where entries lie.
func blocksOf(list []entry) []api.Block {
	var told []api.Block
	for _, x := range list {
		told = append(told, x.at)
	}
	return told
}

// field is what lies on each sixteen bytes of some regions: a handle, or 0.
type field struct {
	c     api.Config
	cells []int
}

func (f *field) lay(x entry) {
	for i := range x.at.Size / 16 {
		f.cells[(x.at.P-f.c.Base)/16+i] = x.handle
	}
}

// meets says whether anything lies on some bytes.
func (f *field) meets(p, size uint64) bool {
	from := (p - f.c.Base) / 16
	return slices.ContainsFunc(f.cells[from:from+size/16], func(handle int) bool { return handle != 0 })
}

// lowest tells the lowest multiple of a size, from an address up to another, where nothing is met; 0, if there is none.
func (f *field) lowest(from, to, size uint64) uint64 {
	for p := from; p < to; p += size {
		if !f.meets(p, size) {
			return p
		}
	}
	return 0
}

// arranged is 'to arrange', word by word: the blocks in the order of their handles, each with its place. It is 0, where there is none.
func arranged(c api.Config, regions int, list []entry) []entry {
	end := c.Base + uint64(regions)*regionBytes(c)
	f := &field{c, make([]int, (end-c.Base)/16)}
	laid := map[int]entry{}
	put := func(x entry) {
		laid[x.handle] = x
		f.lay(x)
	}
	each := func(size uint64, place func() uint64) {
		for _, x := range list {
			if x.pins == 0 && x.at.Size == size {
				x.at.P = place()
				put(x)
			}
		}
	}
	for _, x := range list {
		if x.pins > 0 {
			put(x)
		}
	}
	for size := regionBytes(c); size >= 4096; size /= 2 {
		each(size, func() uint64 { return f.lowest(c.Base, end, size) })
	}
	for size := uint64(2048); size >= 16; size /= 2 {
		each(size, func() uint64 {
			for page := c.Base; page < end; page += 4096 {
				from := (page - c.Base) / 16
				ofClass := slices.ContainsFunc(f.cells[from:from+256], func(handle int) bool { return handle != 0 && laid[handle].at.Size == size })
				if p := f.lowest(page, page+4096, size); ofClass && p != 0 {
					return p
				}
			}
			return f.lowest(c.Base, end, 4096)
		})
	}
	var told []entry
	for _, x := range list {
		told = append(told, laid[x.handle])
	}
	return told
}

// book is a vault by the chapter's words: a heap on which it does just the calls that the chapter says, and a plain list of blocks, rising by their handles.
type book struct {
	h    *malloc.Heap
	list []entry
	told int
}

func (k *book) find(handle int) int {
	return slices.IndexFunc(k.list, func(x entry) bool { return x.handle == handle })
}

func (k *book) regions() int { return int(k.h.Stats().H / regionBytes(k.h.Config())) }

// pinned tells where the pinned blocks lie, and the sizes of the others.
func (k *book) pinned() (stay []api.Block, sizes []uint64) {
	for _, x := range k.list {
		if x.pins > 0 {
			stay = append(stay, x.at)
		} else {
			sizes = append(sizes, x.at.Size)
		}
	}
	return stay, sizes
}

// come enters a new block.
func (k *book) come(p, size uint64) {
	k.told++
	held, e := k.h.Read(p, size)
	if e != api.OK {
		held = make([]byte, size)
	}
	k.list = append(k.list, entry{handle: k.told, at: api.Block{P: p, Size: size}, held: held})
}

// lay is 'to lay anew'.
func (k *book) lay(t *testing.T, regions int) {
	t.Helper()
	k.list = arranged(k.h.Config(), regions, k.list)
	var contents [][]byte
	for _, x := range k.list {
		contents = append(contents, x.held)
	}
	im, e := image.Lay(k.h.Config(), regions, blocksOf(k.list), contents)
	wantsError(t, "P16.8: Lay", e, api.OK)
	k.h, e = image.Load(im)
	wantsError(t, "P16.8: Load", e, api.OK)
}

// what a Malloc came to.
const (
	refused = iota
	found
	laidAnew
	grew
)

// malloc is P16.2.
func (k *book) malloc(t *testing.T, size uint64, deny bool) (int, api.Errno) {
	t.Helper()
	c := k.h.Config()
	r := sizeFor(c, size)
	if r == 0 {
		return refused, api.ETOOBIG
	}
	if p, e := k.h.Malloc(size, true); e != api.ENOMEM {
		k.come(p, r)
		return found, e
	}
	stay, sizes := k.pinned()
	n := k.regions()
	m, is := oracle.Least(c, stay, append(sizes, r))
	if is && m <= n {
		k.come(0, r)
		k.lay(t, n)
		return laidAnew, api.OK
	}
	if !is || deny || n == c.Limit {
		return refused, api.ENOMEM
	}
	p, e := k.h.Malloc(size, false)
	k.come(p, r)
	return grew, e
}

// compact is P16.6.
func (k *book) compact(t *testing.T) int {
	t.Helper()
	stay, sizes := k.pinned()
	n := k.regions()
	m, is := oracle.Least(k.h.Config(), stay, sizes)
	if !is || m > n {
		t.Fatalf("Least: %d, %v, with %d regions", m, is, n)
	}
	k.lay(t, m)
	return n - m
}

// both is a vault beside its book.
type both struct {
	t    *testing.T
	c    api.Config
	v    *vault.Vault
	k    *book
	came [4]int // how often a Malloc came to each
	went int    // how many regions went
}

func newBoth(t *testing.T, c api.Config) *both {
	t.Helper()
	return &both{t: t, c: c, v: newVault(t, c), k: &book{h: newHeap(t, c)}}
}

func (x *both) malloc(size uint64, deny bool) {
	x.t.Helper()
	got, e := x.v.Malloc(size, deny)
	way, want := x.k.malloc(x.t, size, deny)
	wantsError(x.t, "Malloc", e, want)
	x.came[way]++
	if (e == api.OK && got != x.k.told) || (e != api.OK && got != 0) {
		x.t.Fatalf("Malloc(%d, %v): the handle %d, not %d", size, deny, got, x.k.told)
	}
	if way == laidAnew {
		x.checkImage()
	}
}

func (x *both) compact() {
	x.t.Helper()
	want := x.k.compact(x.t)
	wantsCompact(x.t, x.v, want)
	x.went += want
	x.checkImage()
}

// free asks for the Free of a handle, a block's or not.
func (x *both) free(handle int) {
	x.t.Helper()
	i, want := x.k.find(handle), api.EINVAL
	if i >= 0 && x.k.list[i].pins > 0 {
		want = api.ESTATE
	} else if i >= 0 {
		want = x.k.h.Free(x.k.list[i].at.P)
		x.k.list = slices.Delete(x.k.list, i, i+1)
	}
	wantsError(x.t, "Free", x.v.Free(handle), want)
}

func (x *both) pin(handle int) {
	x.t.Helper()
	i, want, wantE := x.k.find(handle), uint64(0), api.EINVAL
	if i >= 0 {
		x.k.list[i].pins++
		want, wantE = x.k.list[i].at.P, api.OK
	}
	if got, e := x.v.Pin(handle); got != want || e != wantE {
		x.t.Fatalf("Pin(%d): %d, %v; not %d, %v", handle, got, e, want, wantE)
	}
}

func (x *both) unpin(handle int) {
	x.t.Helper()
	i, want := x.k.find(handle), api.EINVAL
	if i >= 0 && x.k.list[i].pins == 0 {
		want = api.ESTATE
	} else if i >= 0 {
		x.k.list[i].pins--
		want = api.OK
	}
	wantsError(x.t, "Unpin", x.v.Unpin(handle), want)
}

func (x *both) size(handle int) {
	x.t.Helper()
	i, want, wantE := x.k.find(handle), uint64(0), api.EINVAL
	if i >= 0 {
		want, wantE = x.k.list[i].at.Size, api.OK
	}
	if got, e := x.v.Size(handle); got != want || e != wantE {
		x.t.Fatalf("Size(%d): %d, %v; not %d, %v", handle, got, e, want, wantE)
	}
}

// bytesError is what P16.4 says of n bytes from a place on; sums above 2^64 - 1 are above every size.
func (x *both) bytesError(handle int, at, n uint64) api.Errno {
	i := x.k.find(handle)
	if i < 0 {
		return api.EINVAL
	}
	if at+n < at || at+n > x.k.list[i].at.Size {
		return api.EFAULT
	}
	return api.OK
}

func (x *both) read(handle int, at, n uint64) {
	x.t.Helper()
	got, e := x.v.Read(handle, at, n)
	wantsError(x.t, "Read", e, x.bytesError(handle, at, n))
	var want []byte
	if e == api.OK {
		want = x.k.list[x.k.find(handle)].held[at : at+n]
	}
	if !bytes.Equal(got, want) {
		x.t.Fatalf("Read(%d, %d, %d): other bytes than were written", handle, at, n)
	}
}

func (x *both) write(handle int, at uint64, b []byte) {
	x.t.Helper()
	e := x.v.Write(handle, at, b)
	wantsError(x.t, "Write", e, x.bytesError(handle, at, uint64(len(b))))
	if e == api.OK {
		k := x.k.list[x.k.find(handle)]
		copy(k.held[at:], b)
		wantsError(x.t, "the heap's Write", x.k.h.Write(k.at.P+at, b), api.OK)
	}
}

// handle draws one, most often a block's.
func (x *both) handle(row *numbers) int {
	if len(x.k.list) > 0 && row.below(12) > 0 {
		return oneOf(row, x.k.list...).handle
	}
	return oneOf(row, append(noHandles(), row.below(x.k.told+2), x.k.told, x.k.told+1)...)
}

// bytesCall draws a Read or a Write: within the block, up to its end, past it.
func (x *both) bytesCall(handle int, row *numbers) {
	x.t.Helper()
	size := uint64(16)
	if i := x.k.find(handle); i >= 0 {
		size = x.k.list[i].at.Size
	}
	at := oneOf(row, 0, uint64(row.below(int(size))), uint64(row.below(int(size))), size-1, size, size+1, most)
	n := uint64(row.below(int(size - min(at, size) + 1)))
	n = oneOf(row, n, n, size-min(at, size), size-min(at, size)+1, -at, 0)
	if row.below(2) == 0 {
		x.read(handle, at, n)
		return
	}
	x.write(handle, at, row.bytes(int(min(n, 5000))))
}

// call does one that is drawn. Of a hundred, asking tells how many are Malloc, pinning how many are Pin, for sizes up to a greatest one most often.
func (x *both) call(row *numbers, asking, pinning int, greatest uint64) {
	x.t.Helper()
	handle := x.handle(row)
	switch kind := row.below(100); {
	case kind < asking:
		size := min(row.size(x.c), greatest)
		if row.below(30) == 0 {
			size = oneOf(row, append(edges(), regionBytes(x.c), regionBytes(x.c)+1)...)
		}
		x.malloc(size, row.below(3) == 0)
	case kind < 64:
		x.free(handle)
	case kind < 64+pinning:
		x.pin(handle)
	case kind < 82:
		x.unpin(handle)
	case kind < 95:
		x.bytesCall(handle, row)
	case kind < 99:
		x.size(handle)
	default:
		x.compact()
	}
}

// check holds all but the image against the book.
func (x *both) check() {
	x.t.Helper()
	var handles []int
	for _, k := range x.k.list {
		handles = append(handles, k.handle)
	}
	wantsHandles(x.t, x.v, handles...)
	wantsStats(x.t, x.v, x.k.h.Stats())
}

// checkImage holds the whole heap against the book's: every byte, list and page; and the book's heap against its list.
func (x *both) checkImage() {
	x.t.Helper()
	if !same(x.v.Image(), x.k.h.Image()) {
		x.t.Fatal("the heap is another than the book's")
	}
	live := blocksOf(x.k.list)
	slices.SortFunc(live, func(one, other api.Block) int { return cmp.Compare(one.P, other.P) })
	if !slices.Equal(x.k.h.Live(), live) {
		x.t.Fatal("the book's heap has other blocks than the book")
	}
	for _, k := range x.k.list {
		wantsBytes(x.t, x.v, k.handle, 0, k.held)
	}
}

// P16.1 to P16.10: behind long rows of calls, denied and not, right and wrong, with nothing pinned, with some and with many, each answers what the chapter says, and the heap is the one that the chapter says, to the last byte.
func TestCalls(t *testing.T) {
	var came [4]int
	went := 0
	for seed := range 240 {
		row := numbers(seed)
		x := newBoth(t, config(seed%6, 1+seed%4))
		pinning := []int{0, 2, 5, 12}[seed%4]
		for i := range 250 {
			if i/40%2 == 0 { // it is filled with blocks of a page at most; then it empties, and greater ones are asked for
				x.call(&row, 55, pinning, 4096)
			} else {
				x.call(&row, 25, pinning, most)
			}
			x.check()
			if i%10 == 0 {
				x.checkImage()
			}
		}
		x.checkImage()
		for way, count := range x.came {
			came[way] += count
		}
		went += x.went
	}
	if min(came[refused], came[found], came[grew], 3*came[laidAnew]) < 500 || went < 100 {
		t.Errorf("how often a Malloc came to what: %v; %d regions went", came, went)
	}
}

// fill asks for blocks of sizes up to some, denied and not, till so many are refused.
func (x *both) fill(row *numbers, greatest uint64, misses int) {
	x.t.Helper()
	for misses > 0 {
		ahead := x.came[refused]
		x.malloc(min(row.size(x.c), greatest), row.below(2) == 0)
		misses -= x.came[refused] - ahead
	}
}

// thin frees about so many of a hundred of the blocks that are not pinned.
func (x *both) thin(row *numbers, percent int) {
	x.t.Helper()
	for _, k := range slices.Clone(x.k.list) {
		if row.below(100) < percent && k.pins == 0 {
			x.free(k.handle)
		}
	}
}

// P16.2, P16.6, P16.8: vaults that are full of blocks of a page and less, and then in pieces, are asked for greater ones, again and again, with nothing pinned, some and many.
func TestCallsInPieces(t *testing.T) {
	laid, went := 0, 0
	for seed := range 90 {
		row := numbers(seed)
		x := newBoth(t, config(1+seed%6, 1+seed%3))
		pinning := []int{0, 0, 3, 10, 40}[seed%5]
		for range 12 {
			x.fill(&row, 4096, 3)
			for _, k := range x.k.list {
				if row.below(100) < pinning {
					x.pin(k.handle)
				}
			}
			x.thin(&row, 60)
			x.fill(&row, most, 4)
			x.check()
			x.thin(&row, row.below(100))
			for _, k := range x.k.list {
				if k.pins > 0 && row.below(3) > 0 {
					x.unpin(k.handle)
				}
			}
			if row.below(3) == 0 {
				x.compact()
			}
		}
		x.checkImage()
		laid, went = laid+x.came[laidAnew], went+x.went
	}
	if laid < 600 || went < 100 {
		t.Errorf("only %d were laid anew, and %d regions went", laid, went)
	}
}

// P16.2, P16.6: small blocks alone, so that pages of each class fill, empty and are laid together.
func TestCallsOfSmallBlocks(t *testing.T) {
	laid := 0
	for seed := range 60 {
		row := numbers(seed)
		x := newBoth(t, config(1+seed%2, 2+seed%2))
		least := []uint64{16, 128, 512}[seed%3]
		for range 60 {
			size := least << row.below(4)
			for range 2 * 4096 / size {
				x.malloc(size, row.below(2) == 0)
			}
			for range len(x.k.list) * 2 / 3 {
				x.free(oneOf(&row, x.k.list...).handle)
			}
			for range seed % 4 {
				x.pin(x.handle(&row))
				x.unpin(x.handle(&row))
			}
			if row.below(8) == 0 {
				x.compact()
			}
			x.check()
		}
		x.checkImage()
		laid += x.came[laidAnew]
	}
	if laid < 300 {
		t.Errorf("only %d were laid anew", laid)
	}
}

// P16.2, P16.4: every size, at and n of the edges, on vaults of each order, empty, with a block and full.
func TestEdges(t *testing.T) {
	for order := range 9 {
		x := newBoth(t, config(order, 2))
		r := regionBytes(x.c)
		for _, size := range append(edges(), r-1, r, r+1, 2*r) {
			x.malloc(size, true)
			x.malloc(size, false)
			x.check()
			for _, at := range edges() {
				for _, n := range []uint64{0, 1, 16, size, -at, 1 - at, most} {
					x.read(x.k.told, at, n)
					x.write(x.k.told, at, make([]byte, min(n, 4100)))
				}
			}
		}
		x.checkImage()
		x.compact()
	}
}
