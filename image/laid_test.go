package image_test

import (
	"slices"

	"croft/api"
)

// laid is the image that P10.3 speaks of, by its words: what each page is hangs on the blocks that meet it and those near it, and every list is gathered, rising.
func laid(c api.Config, regions int, blocks []api.Block, contents [][]byte) api.Image {
	pages := regions * regionPages(c)
	im := api.Image{Config: c, Regions: regions, Mem: make([]byte, 4096*pages), Heads: make([]uint64, c.Order+1), Partial: noPartial()}
	for i, content := range contents {
		copy(im.Mem[blocks[i].P-c.Base:], content)
	}
	on := make([][]api.Block, pages)
	for _, b := range blocks {
		for p := b.P / 4096 * 4096; p < b.P+b.Size; p += 4096 {
			number := (p - c.Base) / 4096
			on[number] = append(on[number], b)
		}
	}
	for number := range pages {
		im.Pages = append(im.Pages, pageOf(c, on, number))
	}
	for order := range c.Order {
		im.Pairs = append(im.Pairs, pairsOf(im.Pages, order))
	}
	link(im, nil)
	return im
}

// link lays all lists of an image whose pages are sound, rising; or, with a row of numbers, in any order.
func link(im api.Image, row *numbers) {
	for order := range im.Heads {
		gatherFree(im, order, row)
	}
	for class := range im.Partial {
		gatherPages(im, class, row)
	}
}

// shuffle leaves a list as it is, if there are no numbers.
func shuffle[T any](list []T, row *numbers) {
	for i := range list {
		if row != nil {
			j := i + row.below(len(list)-i)
			list[i], list[j] = list[j], list[i]
		}
	}
}

// pageOf tells what a page is, by the blocks that meet each page.
func pageOf(c api.Config, on [][]api.Block, number int) api.Page {
	if len(on[number]) == 0 {
		return freePage(c, on, number)
	}
	b := on[number][0]
	if b.Size < 4096 {
		return slabPage(on[number])
	}
	order := 0
	for size := uint64(4096); size < b.Size; size += size {
		order++
	}
	if (b.P-c.Base)/4096 == uint64(number) {
		return page(api.PageBig, order)
	}
	return page(api.PageBigRest, order)
}

// freePage tells what one is that meets no block: of the greatest block of pages that meet none.
func freePage(c api.Config, on [][]api.Block, number int) api.Page {
	for order := c.Order; ; order-- {
		size := 1 << order
		first := number / size * size
		if slices.ContainsFunc(on[first:first+size], func(list []api.Block) bool { return len(list) > 0 }) {
			continue // the page alone is free: so it ends
		}
		if first == number {
			return page(api.PageFree, order)
		}
		return page(api.PageFreeRest, order)
	}
}

// slabPage tells what a page is that has small blocks, but for its list of free cells.
func slabPage(blocks []api.Block) api.Page {
	is := page(api.PageSlab, 0)
	size := blocks[0].Size
	for power := uint64(16); power < size; power += power {
		is.Class++
	}
	is.Live = len(blocks)
	for _, b := range blocks {
		cell := b.P % 4096 / size
		is.Bits[cell/64] += 1 << (cell % 64)
	}
	return is
}

// pairsOf tells the words of the pairs of an order.
func pairsOf(pages []api.Page, order int) []uint64 {
	pairs := len(pages) / (2 << order)
	words := make([]uint64, (pairs+63)/64)
	for number, is := range pages {
		if is.Kind == api.PageFree && is.Order == order {
			pair := number / (2 << order)
			words[pair/64] ^= 1 << (pair % 64) // twice is nothing
		}
	}
	return words
}

// gatherFree lays the list of the free blocks of an order.
func gatherFree(im api.Image, order int, row *numbers) {
	list := []uint64{0}
	for number, is := range im.Pages {
		if is.Kind == api.PageFree && is.Order == order {
			list = append(list, im.Config.Base+4096*uint64(number))
		}
	}
	shuffle(list[1:], row)
	list = append(list, 0)
	for i := 1; i < len(list)-1; i++ {
		setWord(im, list[i], list[i+1])
		setWord(im, list[i]+8, list[i-1])
	}
	im.Heads[order] = list[1]
}

// gatherPages lays the partial list of a class, and the lists of cells on its pages.
func gatherPages(im api.Image, class int, row *numbers) {
	list := []int{-1}
	for number, is := range im.Pages {
		if is.Kind == api.PageSlab && is.Class == class && is.Live < 256>>class {
			list = append(list, number)
			gatherCells(im, number, row)
		}
	}
	shuffle(list[1:], row)
	list = append(list, -1)
	for i := 1; i < len(list)-1; i++ {
		im.Pages[list[i]].Prev, im.Pages[list[i]].Next = list[i-1], list[i+1]
	}
	im.Partial[class] = list[1]
}

// gatherCells lays the list of a page's free cells, of which there is one at least.
func gatherCells(im api.Image, number int, row *numbers) {
	var list []int
	is := &im.Pages[number]
	for cell := range 256 >> is.Class {
		if is.Bits[cell/64]>>(cell%64)%2 == 0 {
			list = append(list, cell)
		}
	}
	shuffle(list, row)
	is.First = list[0]
	at := func(cell int) uint64 { return im.Config.Base + uint64(4096*number+cell*(16<<is.Class)) }
	for i, cell := range list[1:] {
		setWord(im, at(list[i]), at(cell))
	}
	setWord(im, at(list[len(list)-1]), 0)
}

// setWord sets the eight bytes from p on, the lowest first.
func setWord(im api.Image, p, word uint64) {
	for i := range uint64(8) {
		im.Mem[p-im.Config.Base+i] = byte(word % 256)
		word /= 256
	}
}

// fits tells whether Lay takes what it is handed, of a Config that may be.
func fits(c api.Config, regions int, blocks []api.Block, contents [][]byte) bool {
	if regions < 0 || regions > c.Limit || len(contents) > len(blocks) {
		return false
	}
	for i, b := range blocks {
		if !isBlock(c, regions, b) || i < len(contents) && uint64(len(contents[i])) > b.Size {
			return false
		}
		for _, other := range blocks[:i] {
			if b.P < other.P+other.Size && other.P < b.P+b.Size {
				return false
			}
			if b.P/4096 == other.P/4096 && b.Size != other.Size { // blocks that are not small are alone there
				return false
			}
		}
	}
	return true
}

// isBlock tells whether b is a block of committed bytes.
func isBlock(c api.Config, regions int, b api.Block) bool {
	r := uint64(4096 * regionPages(c))
	for size := uint64(16); size <= r; size += size {
		if b.Size == size && b.P%size == 0 {
			return c.Base <= b.P && b.P <= c.Base+uint64(regions)*r-size && regions > 0
		}
	}
	return false
}

// drawn tells live blocks of a heap with so many regions, rising.
func drawn(c api.Config, regions int, row *numbers) []api.Block {
	var list []api.Block
	r := uint64(4096 * regionPages(c))
	for i := range regions {
		list = append(list, drawnIn(c.Base+uint64(i)*r, r, row)...)
	}
	return list
}

// drawnIn tells some within whole pages.
func drawnIn(p, size uint64, row *numbers) []api.Block {
	switch kind := row.below(12); {
	case kind < 2:
		return nil
	case kind < 4:
		return []api.Block{{P: p, Size: size}}
	case size > 4096:
		return append(drawnIn(p, size/2, row), drawnIn(p+size/2, size/2, row)...)
	}
	var list []api.Block
	small, share := uint64(16)<<row.below(8), row.below(5)
	for q := p; q < p+4096; q += small {
		if row.below(4) < share {
			list = append(list, api.Block{P: q, Size: small})
		}
	}
	return list
}

// drawnContents tells some for blocks: none, empty ones, some bytes, as many as there is room for.
func drawnContents(blocks []api.Block, row *numbers) [][]byte {
	list := make([][]byte, len(blocks))
	for i, b := range blocks {
		switch row.below(4) {
		case 0:
			list[i] = []byte{}
		case 1:
			list[i] = row.bytes(int(b.Size))
		case 2:
			list[i] = row.bytes(row.below(int(b.Size)))
		}
	}
	return list
}

// shuffled tells blocks with their contents in another order.
func shuffled(blocks []api.Block, contents [][]byte, row *numbers) ([]api.Block, [][]byte) {
	blocks, contents = slices.Clone(blocks), slices.Clone(contents)
	other := *row // so that both are shuffled alike
	shuffle(blocks, row)
	shuffle(contents, &other)
	return blocks, contents
}

// backward tells them from the last to the first.
func backward(blocks []api.Block, contents [][]byte) ([]api.Block, [][]byte) {
	blocks, contents = slices.Clone(blocks), slices.Clone(contents)
	slices.Reverse(blocks)
	slices.Reverse(contents)
	return blocks, contents
}
