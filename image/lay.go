package image

import (
	"math/bits"

	"croft/api"
)

const (
	maxCells = 256 // of a page: those of class 0
	wordBits = 64
)

// Lay makes the image of a heap with just these live blocks, and what they hold.
func Lay(c api.Config, regions int, blocks []api.Block, contents [][]byte) (api.Image, api.Errno) {
	if !mayBe(c) || !within(regions, 0, c.Limit) || len(contents) > len(blocks) {
		return api.Image{}, api.EINVAL
	}
	im := bare(c, regions)
	for i, block := range blocks {
		if !enter(&im, block) {
			return api.Image{}, api.EINVAL
		}
		if i < len(contents) && !fill(&im, block, contents[i]) {
			return api.Image{}, api.EINVAL
		}
	}
	joinHalves(&im)
	linkAll(&im)
	return im, api.OK
}

// bare is an image of zeros, each page of it a free block of its own that is on no list yet.
func bare(c api.Config, regions int) api.Image {
	pages := regions << c.Order
	im := api.Image{
		Config:  c,
		Regions: regions,
		Mem:     make([]byte, pages*api.PageSize),
		Pages:   make([]api.Page, pages),
		Pairs:   make([][]uint64, c.Order),
		Heads:   make([]uint64, c.Order+1),
		Partial: make([]int, api.Classes),
	}
	for number := range im.Pages {
		im.Pages[number] = blank(api.PageFree, 0)
	}
	for order := range im.Pairs {
		im.Pairs[order] = make([]uint64, pairWords(pages, order))
	}
	for class := range im.Partial {
		im.Partial[class] = none
	}
	return im
}

// pairWords tells how many words hold a bit for each pair of an order.
func pairWords(pages, order int) int { return (pages>>(order+1) + wordBits - 1) / wordBits }

// blank is a page of a kind, with nothing more to tell than its block's order.
func blank(kind, order int) api.Page {
	return api.Page{Kind: kind, Order: order, Next: none, Prev: none, First: none}
}

// run makes pages a block's: the first one is of that kind, all others of the kind behind it.
func run(pages []api.Page, order, kind int) {
	for i := range pages {
		pages[i] = blank(kind+1, order)
	}
	pages[0] = blank(kind, order)
}

// offset tells where in Mem the byte p is: below Base it wraps round, to past all bytes.
func offset(im *api.Image, p uint64) uint64 { return p - im.Config.Base }

// enter makes a block live, if it is one of committed bytes that goes with those that are live already.
func enter(im *api.Image, b api.Block) bool {
	from := offset(im, b.P)
	if !isSize(b.Size, im.Config) || b.P%b.Size != 0 || from >= uint64(len(im.Mem)) {
		return false
	}
	pages := im.Pages[from/api.PageSize:]
	if b.Size < api.PageSize {
		return enterCell(&pages[0], b)
	}
	return enterRun(pages[:b.Size/api.PageSize])
}

// isSize tells whether blocks may be so great.
func isSize(size uint64, c api.Config) bool {
	return bits.OnesCount64(size) == 1 && api.MinSize <= size && size <= api.PageSize<<c.Order
}

// enterRun makes pages a live block, if none of them meets one.
func enterRun(pages []api.Page) bool {
	for _, page := range pages {
		if page != blank(api.PageFree, 0) {
			return false
		}
	}
	run(pages, log(uint64(len(pages))), api.PageBig)
	return true
}

// enterCell makes a cell of a page live, if it meets no live block, and the page has none of another size.
func enterCell(page *api.Page, b api.Block) bool {
	class := log(b.Size / api.MinSize)
	if *page == blank(api.PageFree, 0) {
		*page = blank(api.PageSlab, 0)
		page.Class = class
	}
	cell := int(b.P % api.PageSize / b.Size)
	if page.Kind != api.PageSlab || page.Class != class || isLive(page, cell) {
		return false
	}
	page.Bits[cell/wordBits] |= 1 << (cell % wordBits)
	page.Live++
	return true
}

// isLive tells whether a cell of a slab page is.
func isLive(page *api.Page, cell int) bool {
	return page.Bits[cell/wordBits]>>(cell%wordBits)&1 == 1
}

// log tells which power of 2 a power of 2 is.
func log(power uint64) int { return bits.TrailingZeros64(power) }

// fill lays contents into a block, if it has room for them.
func fill(im *api.Image, b api.Block, contents []byte) bool {
	if uint64(len(contents)) > b.Size {
		return false
	}
	copy(im.Mem[offset(im, b.P):], contents)
	return true
}

// joinHalves makes one block of every two free halves, order by order: so each free page belongs to the greatest block that there is for it. What is joined is of the order in hand no more, and what is not stays: so the bits of its pairs are told on the way.
func joinHalves(im *api.Image) {
	for order, words := range im.Pairs {
		half := 1 << order
		for pair := range len(im.Pages) / (2 * half) {
			pages := im.Pages[pair*2*half : (pair+1)*2*half]
			free := blank(api.PageFree, order)
			switch lower, upper := pages[0] == free, pages[half] == free; {
			case lower && upper:
				run(pages, order+1, api.PageFree)
			case lower || upper:
				words[pair/wordBits] |= 1 << (pair % wordBits)
			}
		}
	}
}
