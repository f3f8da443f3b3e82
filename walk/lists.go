package walk

import (
	"croft/api"
	"croft/bits"
)

// wordBytes is how many bytes a word has.
const wordBytes = 8

// meet takes i out of the set of those that are still to come on a list. One that does not belong there is not in it, and neither is one that was there before: so every list ends.
func meet(left *bits.Set, i, place int) {
	must(left.Get(i), place)
	left.Put(i, false)
}

// askFreeLists is rule 8.
func askFreeLists(im *api.Image) {
	for order, p := range im.Heads {
		left := pagesThat(im, func(page api.Page) bool { return isFree(page, order) })
		for back := uint64(0); p != 0; {
			meet(left, pageAt(im, p), order)
			must(word(im, p+wordBytes) == back, order)
			back, p = p, word(im, p)
		}
		must(left.Count() == 0, order)
	}
}

// askCellLists is rule 9.
func askCellLists(im *api.Image) {
	for number, page := range im.Pages {
		if page.Kind == api.PageSlab {
			askCellList(im, number)
		}
	}
}

func askCellList(im *api.Image, number int) {
	page := im.Pages[number]
	left := freeSet(page)
	for cell := page.First; cell != none; {
		meet(left, cell, number)
		cell = nextCell(im, number, cell)
	}
	must(left.Count() == 0, number)
}

// nextCell tells the one that a free cell's word leads to, none behind the last.
func nextCell(im *api.Image, number, cell int) int {
	first, size := address(im, number), cellSize(im.Pages[number])
	next := word(im, first+uint64(cell)*size)
	if next == 0 {
		return none
	}
	offset := next - first // of one below the page it wraps round, to past its end
	must(offset < api.PageSize && offset%size == 0, number)
	return int(offset / size)
}

// freeSet is the set of a slab page's free cells.
func freeSet(page api.Page) *bits.Set {
	free := liveSet(page)
	for cell := range free.Len() {
		free.Flip(cell)
	}
	return free
}

// askPartialLists is rule 10.
func askPartialLists(im *api.Image) {
	for class, number := range im.Partial {
		left := pagesThat(im, func(page api.Page) bool {
			return page.Kind == api.PageSlab && page.Class == class && !full(page)
		})
		for back := none; number != none; {
			meet(left, number, class)
			must(im.Pages[number].Prev == back, class)
			back, number = number, im.Pages[number].Next
		}
		must(left.Count() == 0, class)
	}
}

// full tells whether all cells of a slab page are live.
func full(page api.Page) bool { return page.Live == cells(page) }

// askFullPages is rule 11.
func askFullPages(im *api.Image) {
	for number, page := range im.Pages {
		if page.Kind == api.PageSlab && full(page) {
			must(page.Next == none && page.Prev == none, number)
		}
	}
}

// pagesThat is the set of the pages that are as is asks.
func pagesThat(im *api.Image, is func(api.Page) bool) *bits.Set {
	set := bits.NewSet(len(im.Pages))
	for number, page := range im.Pages {
		set.Put(number, is(page))
	}
	return set
}

// address tells where a page begins.
func address(im *api.Image, number int) uint64 {
	return im.Config.Base + uint64(number)*api.PageSize
}

// pageAt tells which page begins at p, none if none does.
func pageAt(im *api.Image, p uint64) int {
	offset := p - im.Config.Base // below Base it wraps round, to past all pages
	if offset >= uint64(len(im.Mem)) || offset%api.PageSize != 0 {
		return none
	}
	return int(offset / api.PageSize)
}

// word tells the eight bytes from p on, the lowest first. They are there.
func word(im *api.Image, p uint64) uint64 {
	w, from := uint64(0), p-im.Config.Base
	for i, b := range im.Mem[from : from+wordBytes] {
		w |= uint64(b) << (8 * i)
	}
	return w
}
