package walk_test

import (
	"slices"
	"testing"

	"croft/api"
	"croft/malloc"
	"croft/walk"
)

func newHeap(t *testing.T, c api.Config) *malloc.Heap {
	t.Helper()
	h, e := malloc.New(c)
	if e != api.OK {
		t.Fatal(e)
	}
	return h
}

func opened(t *testing.T, im api.Image) *malloc.Heap {
	t.Helper()
	h, e := malloc.Open(im)
	if e != api.OK {
		t.Fatalf("Open: %v", e)
	}
	return h
}

// size tells one for a request, most often close to a power of 2 up to a region.
func size(c api.Config, row *numbers) uint64 {
	r := uint64(8) << row.below(11+c.Order)
	return r - uint64(row.below(2)*row.below(int(r)))
}

// anyCall does a call on a heap, without a look at what it answers.
func anyCall(h *malloc.Heap, row *numbers) {
	c, deny := h.Config(), row.below(4) == 0
	p, live := uint64(row.below(1<<20)), h.Live()
	if len(live) > 0 && row.below(8) > 0 {
		p = live[row.below(len(live))].P
	}
	switch row.below(12) {
	case 0:
		h.Trim()
	case 1, 2, 3:
		h.Malloc(size(c, row), deny)
	case 4:
		h.Calloc(1+uint64(row.below(3)), size(c, row), deny)
	case 5:
		h.AlignedAlloc(1<<row.below(14), size(c, row), deny)
	case 6, 7:
		h.Realloc(p, size(c, row), deny)
	case 8:
		h.StoreWord(p, -p)
	default:
		h.Free(p)
	}
}

// soundAs asks that a heap's image is sound, and that its blocks are the heap's live ones.
func soundAs(t *testing.T, h *malloc.Heap) {
	t.Helper()
	im := h.Image()
	if rule, place := walk.Check(im); rule != 0 || place != 0 {
		t.Fatalf("the heap's image: %d, %d", rule, place)
	}
	if got, want := walk.Blocks(im), h.Live(); !slices.Equal(got, want) {
		t.Fatalf("Blocks: %v, not %v", got, want)
	}
}

// P9.3, T10: of every Order, from no region on: the image that a heap tells is sound behind each call.
func TestImagesOfHeaps(t *testing.T) {
	for order := range 9 {
		for seed := range 4 {
			row := numbers(seed)
			h := newHeap(t, config(order, max(1, []int{1, 2, 5, 64}[seed]>>(order/5))))
			soundAs(t, h)
			for range 300 >> (order / 3) {
				anyCall(h, &row)
				soundAs(t, h)
			}
			for _, block := range h.Live() {
				h.Free(block.P)
			}
			soundAs(t, h)
			h.Trim()
			soundAs(t, h)
			wantsTold(t, "the image of a heap that was emptied", h.Image())
		}
	}
}

// P9.3: the same of heaps with very many blocks.
func TestImagesOfFullHeaps(t *testing.T) {
	for order := range 9 {
		for class := range 9 {
			h := newHeap(t, config(order, 2))
			e := api.OK
			for e == api.OK && len(h.Live()) < 600 {
				for range 100 {
					_, e = h.Malloc(16<<class, false)
				}
			}
			soundAs(t, h)
			for i, block := range h.Live() {
				if i%3 > 0 {
					h.Free(block.P)
				}
			}
			soundAs(t, h)
		}
	}
}

// P9.3: of a sound image malloc.Open makes a heap whose live blocks are Blocks, and whose image is the same.
func TestHeapsOfImages(t *testing.T) {
	for seed := range 150 {
		row := numbers(seed)
		c := config(seed%9, 1+row.below(5))
		im := someImage(c, row.below(c.Limit+1), &row)
		wantsTold(t, "sound", im)
		for range 3 {
			h := opened(t, im)
			if !same(h.Image(), im) {
				t.Fatalf("seed %d: another image", seed)
			}
			if !slices.Equal(h.Live(), walk.Blocks(im)) {
				t.Fatalf("seed %d: other live blocks", seed)
			}
			relay(im, row.below)
			wants(t, "lists in another order", im, 0, 0)
		}
	}
}

// links tells of each byte whether it belongs to a link.
func links(im api.Image) []bool {
	list := make([]bool, len(im.Mem))
	mark := func(p, n uint64) {
		for i := range n {
			list[p-im.Config.Base+i] = true
		}
	}
	for number, page := range im.Pages {
		if page.Kind == api.PageFree {
			mark(at(im, number), 16)
		}
		for cell := range 256 >> page.Class {
			if page.Kind == api.PageSlab && !liveCell(page, cell) {
				mark(cellAt(im, number, cell), 8)
			}
		}
	}
	return list
}

// P9.3: of all bytes just the links turn anything.
func TestBytes(t *testing.T) {
	im := laid(config(2, 2), cells(0, 0, 7, 255), cells(5, 3, 4), free(1), fullOf(7), cells(7, 1), taken(0), free(0))
	blocks := walk.Blocks(im)
	for i, link := range links(im) {
		for _, turned := range []byte{0xff, 0x80, 1} {
			im.Mem[i] ^= turned
			rule, place := walk.Check(im)
			want := [2]int{}
			if link && im.Pages[i/4096].Kind == api.PageFree {
				want = [2]int{8, im.Pages[i/4096].Order}
			} else if link {
				want = [2]int{9, i / 4096}
			}
			if rule != want[0] || place != want[1] {
				t.Fatalf("the byte %d: %d, %d, not %v", i, rule, place, want)
			}
			if !link && !slices.Equal(walk.Blocks(im), blocks) {
				t.Fatalf("the byte %d turns the blocks", i)
			}
			im.Mem[i] ^= turned
		}
	}
	row := numbers(1)
	for i, link := range links(im) {
		if !link {
			im.Mem[i] = byte(row.below(256))
		}
	}
	wants(t, "all other bytes turned", im, 0, 0)
}
