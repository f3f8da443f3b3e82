package walk_test

import (
	"slices"
	"testing"

	"croft/api"
	"croft/walk"
)

// example is the chapter's: two pages in a region, at most two regions.
func example() api.Config { return api.Config{Base: 65536, Limit: 2, Order: 1} }

func page(kind, order int) api.Page {
	return api.Page{Kind: kind, Order: order, Next: -1, Prev: -1, First: -1}
}

func noPartial() []int { return []int{-1, -1, -1, -1, -1, -1, -1, -1} }

// allFree is the image of one region, all of it free.
func allFree() api.Image {
	return api.Image{
		Config: example(), Regions: 1, Mem: make([]byte, 8192),
		Pages: []api.Page{page(api.PageFree, 1), page(api.PageFreeRest, 1)},
		Pairs: [][]uint64{{0}}, Heads: []uint64{0, 65536}, Partial: noPartial(),
	}
}

// halfFree has a live page and a free one.
func halfFree() api.Image {
	im := allFree()
	im.Pages = []api.Page{page(api.PageBig, 0), page(api.PageFree, 0)}
	im.Heads = []uint64{69632, 0}
	im.Pairs = [][]uint64{{1}}
	return im
}

// slabbed has a slab page with two cells, the second one live, and a live page.
func slabbed() api.Image {
	im := allFree()
	im.Pages = []api.Page{page(api.PageSlab, 0), page(api.PageBig, 0)}
	im.Pages[0].Class, im.Pages[0].Live, im.Pages[0].First = 7, 1, 0
	im.Pages[0].Bits[0] = 2
	im.Heads = []uint64{0, 0}
	im.Partial[7] = 0
	return im
}

// fullPage is slabbed with both cells live, and on no list of cells.
func fullPage(im *api.Image) {
	im.Pages[0].Live, im.Pages[0].Bits[0], im.Pages[0].First = 2, 3, -1
}

func wantsBlocks(t *testing.T, im api.Image, want ...api.Block) {
	t.Helper()
	if got := walk.Blocks(im); !slices.Equal(got, want) {
		t.Errorf("Blocks: %v, not %v", got, want)
	}
}

// The chapter's table, its first four rows.
func TestExamplesOfAllFree(t *testing.T) {
	wants(t, "that", allFree(), 0, 0)
	wantsBlocks(t, allFree())

	none := api.Image{Config: example(), Pairs: [][]uint64{nil}, Heads: []uint64{0, 0}, Partial: noPartial()}
	wants(t, "no region", none, 0, 0)
	wantsBlocks(t, none)

	im := allFree()
	im.Config.Limit = 65
	wants(t, "Limit 65", im, 1, 0)
	im = allFree()
	im.Mem = im.Mem[:8191]
	wants(t, "8191 bytes", im, 2, 1)
	im = allFree()
	im.Heads = []uint64{0, 65536, 0}
	wants(t, "three heads", im, 2, 4)

	im = allFree()
	im.Pages[1] = page(api.PageBig, 1)
	wants(t, "page 1 PageBig", im, 4, 1)
	im = allFree()
	im.Pages[1].Order = 0
	wants(t, "page 1 of Order 0", im, 4, 1)
}

// The chapter's table, its fifth to seventh row.
func TestExamplesOfHalfFree(t *testing.T) {
	im := allFree()
	im.Pages = []api.Page{page(api.PageFree, 0), page(api.PageFree, 0)}
	wants(t, "both pages free", im, 6, 0)

	im = halfFree()
	im.Pairs[0][0] = 0
	wants(t, "the pair's bit 0", im, 7, 0)
	wants(t, "the pair's bit 1", halfFree(), 0, 0)
	wantsBlocks(t, halfFree(), api.Block{P: 65536, Size: 4096})

	im = halfFree()
	im.Mem[69640-65536] = 1
	wants(t, "the word at 69640 1", im, 8, 0)
	im = halfFree()
	im.Mem[69632-65536+2] = 1 // 65536
	wants(t, "the word at 69632 65536", im, 8, 0)
}

// The chapter's table, its last three rows.
func TestExamplesOfSlabPages(t *testing.T) {
	wants(t, "a slab page", slabbed(), 0, 0)
	wantsBlocks(t, slabbed(), api.Block{P: 67584, Size: 2048}, api.Block{P: 69632, Size: 4096})

	im := slabbed()
	im.Pages[0].First = -1
	wants(t, "First -1", im, 9, 0)
	im = slabbed()
	im.Partial[7] = -1
	wants(t, "Partial -1", im, 10, 7)
	im = slabbed()
	fullPage(&im)
	wants(t, "both cells live", im, 10, 7)
	im.Partial[7] = -1
	wants(t, "both cells live and on no list", im, 0, 0)
	wantsBlocks(t, im, api.Block{P: 65536, Size: 2048}, api.Block{P: 67584, Size: 2048}, api.Block{P: 69632, Size: 4096})
	im.Pages[0].Next = 1
	wants(t, "both cells live with Next 1", im, 11, 0)
}
