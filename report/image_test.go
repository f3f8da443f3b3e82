package report_test

import (
	"slices"

	"croft/api"
)

// part is what a row of pages is: a free or a live block of 2^order pages, or a slab page of a class with some live cells.
type part struct {
	kind, order, class int
	live               []int
}

func free(order int) part { return part{kind: api.PageFree, order: order} }

func taken(order int) part { return part{kind: api.PageBig, order: order} }

func cells(class int, live ...int) part {
	return part{kind: api.PageSlab, class: class, live: live}
}

// allBut is a slab page all of whose cells are live but these.
func allBut(class int, dead ...int) part {
	var all []int
	for cell := range 256 >> class {
		if !slices.Contains(dead, cell) {
			all = append(all, cell)
		}
	}
	return cells(class, all...)
}

// laid is the sound image of these parts, one behind the other; they are to be whole regions. Each list stands in rising order.
func laid(c api.Config, parts ...part) api.Image {
	im := api.Image{Config: c, Heads: make([]uint64, c.Order+1), Partial: make([]int, 8)}
	for _, is := range parts {
		im.Pages = append(im.Pages, pagesOf(is)...)
	}
	im.Mem = make([]byte, 4096*len(im.Pages))
	im.Regions = len(im.Mem) / int(regionSize(c))
	for order := range c.Order {
		im.Pairs = append(im.Pairs, pairWords(im.Pages, order))
	}
	relay(im, func(int) int { return 0 })
	return im
}

func pagesOf(is part) []api.Page {
	if is.kind == api.PageSlab {
		page := api.Page{Kind: is.kind, Class: is.class, Live: len(is.live), Next: -1, Prev: -1, First: -1}
		for _, cell := range is.live {
			page.Bits[cell/64] += 1 << (cell % 64)
		}
		return []api.Page{page}
	}
	page := api.Page{Kind: is.kind, Order: is.order, Next: -1, Prev: -1, First: -1}
	list := []api.Page{page}
	page.Kind++
	for len(list) < 1<<is.order {
		list = append(list, page)
	}
	return list
}

// pairWords tells the bits of the pairs of an order.
func pairWords(pages []api.Page, order int) []uint64 {
	pairs := len(pages) / (2 << order)
	words := make([]uint64, (pairs+63)/64)
	for page, is := range pages {
		if is.Kind == api.PageFree && is.Order == order {
			pair := page / (2 << order)
			words[pair/64] ^= 1 << (pair % 64) // twice is nothing
		}
	}
	return words
}

// relay lays all lists of an image whose pages are sound: of those that are left the one is next that pick tells of their number.
func relay(im api.Image, pick func(end int) int) {
	for order := range im.Heads {
		var list []uint64
		for page, is := range im.Pages {
			if is.Kind == api.PageFree && is.Order == order {
				list = append(list, at(im, page))
			}
		}
		list = picked(list, pick)
		around := slices.Concat([]uint64{0}, list, []uint64{0})
		for i, p := range list {
			setWord(im, p, around[i+2])
			setWord(im, p+8, around[i])
		}
		im.Heads[order] = around[1]
	}
	for class := range im.Partial {
		relayClass(im, class, pick)
	}
}

// relayClass lays the partial list of a class, and the lists of cells on its pages.
func relayClass(im api.Image, class int, pick func(end int) int) {
	var list []int
	for page, is := range im.Pages {
		if is.Kind == api.PageSlab && is.Class == class && is.Live < 256>>class {
			list = append(list, page)
			relayCells(im, page, pick)
		}
	}
	list = picked(list, pick)
	around := slices.Concat([]int{-1}, list, []int{-1})
	for i, page := range list {
		im.Pages[page].Prev, im.Pages[page].Next = around[i], around[i+2]
	}
	im.Partial[class] = around[1]
}

func relayCells(im api.Image, page int, pick func(end int) int) {
	var list []int
	for cell := range 256 >> im.Pages[page].Class {
		if im.Pages[page].Bits[cell/64]>>(cell%64)%2 == 0 {
			list = append(list, cell)
		}
	}
	list = picked(list, pick)
	im.Pages[page].First = list[0]
	for i, cell := range list {
		next := uint64(0)
		if i+1 < len(list) {
			next = cellAt(im, page, list[i+1])
		}
		setWord(im, cellAt(im, page, cell), next)
	}
}

func picked[T any](list []T, pick func(end int) int) []T {
	var all []T
	for len(list) > 0 {
		i := pick(len(list))
		all = append(all, list[i])
		list = slices.Delete(list, i, i+1)
	}
	return all
}

// at tells where a page begins.
func at(im api.Image, page int) uint64 { return im.Config.Base + 4096*uint64(page) }

// cellAt tells where a cell of a slab page begins.
func cellAt(im api.Image, page, cell int) uint64 {
	return at(im, page) + uint64(cell)*uint64(4096/(256>>im.Pages[page].Class))
}

// setWord sets the eight bytes from p on, the lowest first.
func setWord(im api.Image, p, word uint64) {
	for i := range uint64(8) {
		im.Mem[p-im.Config.Base+i] = byte(word % 256)
		word /= 256
	}
}

// getWord tells them.
func getWord(im api.Image, p uint64) uint64 {
	word := uint64(0)
	for i := range uint64(8) {
		word = word*256 + uint64(im.Mem[p-im.Config.Base+7-i])
	}
	return word
}

// drawn tells parts at random that are one block of an order: no two free halves of a greater block among them.
func drawn(order int, row *numbers) []part {
	if order == 0 || row.below(5) == 0 {
		return []part{leaf(order, row)}
	}
	lower, upper := drawn(order-1, row), drawn(order-1, row)
	if len(lower) == 1 && len(upper) == 1 && lower[0].kind == api.PageFree && upper[0].kind == api.PageFree {
		return []part{free(order)}
	}
	return append(lower, upper...)
}

func leaf(order int, row *numbers) part {
	kind := row.below(5)
	if order > 0 || kind < 2 {
		return []part{free(order), taken(order)}[kind%2]
	}
	class := row.below(8)
	if row.below(3) == 0 {
		return allBut(class)
	}
	var live []int
	share := 1 + row.below(4)
	for cell := range 256 >> class {
		if row.below(4) < share {
			live = append(live, cell)
		}
	}
	if len(live) == 0 {
		live = []int{row.below(256 >> class)}
	}
	return cells(class, live...)
}

// someImage is a sound one that no row of calls need have made, its lists in any order, with any bytes where none matter.
func someImage(c api.Config, regions int, row *numbers) api.Image {
	var parts []part
	for range regions {
		parts = append(parts, drawn(c.Order, row)...)
	}
	im := laid(c, parts...)
	for i := range im.Mem {
		im.Mem[i] = byte(row.below(256))
	}
	relay(im, row.below)
	return im
}

// hand is an image of two regions of eight pages with some of everything in it: of class 0 the pages 0 and 7, of class 4 the pages 1 and 15 on the partial lists, 6 is full; free are 2 and 14, and two pages each at 4 and 12.
func hand() api.Image {
	return laid(api.Config{Base: 1 << 20, Limit: 3, Order: 3},
		cells(0, 0, 5), cells(4, 1), free(0), taken(0), free(1), allBut(7), cells(0, 255, 3, 64),
		taken(2), free(1), free(0), cells(4, 0, 15))
}
