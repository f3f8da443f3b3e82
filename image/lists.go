package image

import (
	"slices"

	"croft/api"
)

// wordBytes is how many bytes a word has.
const wordBytes = 8

// linkAll lays all lists. From the last page down each becomes the head of its list: so all of them rise.
func linkAll(im *api.Image) {
	for number, page := range slices.Backward(im.Pages) {
		switch page.Kind {
		case api.PageFree:
			linkBlock(im, address(im, number), page.Order)
		case api.PageSlab:
			linkCells(im, number)
			linkPage(im, number)
		}
	}
}

// linkBlock heads the list of free blocks of an order with that at p, whose own links are zeros.
func linkBlock(im *api.Image, p uint64, order int) {
	next := im.Heads[order]
	setWord(im, p, next)
	if next != 0 {
		setWord(im, next+wordBytes, p)
	}
	im.Heads[order] = p
}

// linkCells lays the list of a slab page's free cells.
func linkCells(im *api.Image, number int) {
	page := &im.Pages[number]
	size, next := uint64(api.MinSize)<<page.Class, uint64(0)
	for cell := maxCells>>page.Class - 1; cell >= 0; cell-- {
		if isLive(page, cell) {
			continue
		}
		p := address(im, number) + uint64(cell)*size
		setWord(im, p, next)
		next, page.First = p, cell
	}
}

// linkPage heads the partial list of its class with a slab page that has a free cell.
func linkPage(im *api.Image, number int) {
	page := &im.Pages[number]
	if page.First == none {
		return
	}
	page.Next = im.Partial[page.Class]
	if page.Next != none {
		im.Pages[page.Next].Prev = number
	}
	im.Partial[page.Class] = number
}

// address tells where a page begins.
func address(im *api.Image, number int) uint64 {
	return im.Config.Base + uint64(number)*api.PageSize
}

// setWord sets the eight bytes from p on, the lowest first.
func setWord(im *api.Image, p, v uint64) {
	copy(im.Mem[offset(im, p):], numbers(wordBytes, v))
}
