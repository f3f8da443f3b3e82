package walk

import (
	"croft/api"
	"croft/bits"
)

const (
	none     = -1      // where a page, a cell or a number of a set might stand
	maxCells = 256     // of a page: those of class 0
	maxEnd   = 1 << 63 // where the last region may end at most
	wordBits = 64      // of a word of a set
)

// askConfig is rule 1.
func askConfig(im *api.Image) { must(mayBe(im.Config), 0) }

// mayBe tells whether c may be a Config.
func mayBe(c api.Config) bool {
	if !within(c.Order, 0, api.MaxOrder) || !within(c.Limit, 1, api.MaxRegions) {
		return false
	}
	if c.Limit<<c.Order > api.MaxPages {
		return false
	}
	size := uint64(api.PageSize) << c.Order
	return c.Base != 0 && c.Base%size == 0 && c.Base <= maxEnd-uint64(c.Limit)*size
}

func within(x, least, greatest int) bool { return least <= x && x <= greatest }

// askLengths is rule 2.
func askLengths(im *api.Image) {
	c := im.Config
	must(within(im.Regions, 0, c.Limit), 0)
	pages := im.Regions << c.Order
	must(len(im.Mem) == pages*api.PageSize, 1)
	must(len(im.Pages) == pages, 2)
	must(len(im.Pairs) == c.Order, 3)
	for order, words := range im.Pairs {
		must(len(words) == (pairsOf(im, order)+wordBits-1)/wordBits, 3)
	}
	must(len(im.Heads) == c.Order+1, 4)
	must(len(im.Partial) == api.Classes, 5)
}

// pairsOf tells how many pairs of an order there are.
func pairsOf(im *api.Image, order int) int { return len(im.Pages) >> (order + 1) }

// askRanges is rule 3.
func askRanges(im *api.Image) {
	last := len(im.Pages) - 1
	for number, page := range im.Pages {
		must(within(page.Kind, api.PageFree, api.PageSlab), number)
		must(within(page.Order, 0, im.Config.Order), number)
		must(within(page.Class, 0, api.Classes-1), number)
		must(within(page.Live, 0, maxCells), number)
		must(within(page.Next, none, last), number)
		must(within(page.Prev, none, last), number)
		must(within(page.First, none, maxCells-1), number)
	}
}

// askBlocks is rule 4. A region is whole pages of every order: so no block that begins at a multiple of its size reaches beyond the last page.
func askBlocks(im *api.Image) {
	for first := 0; first < len(im.Pages); {
		page := im.Pages[first]
		behind := first + 1<<page.Order
		switch page.Kind {
		case api.PageFree, api.PageBig:
			must(first%(1<<page.Order) == 0 && page == plain(page.Kind, page.Order), first)
			for rest := first + 1; rest < behind; rest++ {
				must(im.Pages[rest] == plain(page.Kind+1, page.Order), rest)
			}
		case api.PageSlab:
			must(page.Order == 0, first)
		default:
			must(false, first)
		}
		first = behind
	}
}

// plain is what a page of a block of whole pages is.
func plain(kind, order int) api.Page {
	return api.Page{Kind: kind, Order: order, Next: none, Prev: none, First: none}
}

// askCells is rule 5.
func askCells(im *api.Image) {
	for number, page := range im.Pages {
		if page.Kind != api.PageSlab {
			continue
		}
		all := bits.Of(page.Bits[:], maxCells)
		must(page.Live > 0 && page.Live == all.Count(), number)
		must(all.Next(cells(page)) == none, number)
	}
}

// cells tells how many a slab page has.
func cells(page api.Page) int { return maxCells >> page.Class }

// cellSize tells the bytes of each.
func cellSize(page api.Page) uint64 { return api.MinSize << page.Class }

// liveSet is the set of a slab page's live cells.
func liveSet(page api.Page) *bits.Set { return bits.Of(page.Bits[:], cells(page)) }

// askHalves is rule 6.
func askHalves(im *api.Image) {
	for lower, page := range im.Pages {
		order := page.Order
		if isFree(page, order) && order < im.Config.Order && lower%(2<<order) == 0 {
			upper := lower + 1<<order
			must(!isFree(im.Pages[upper], order), lower)
		}
	}
}

// isFree tells whether a page begins a free block of that order.
func isFree(page api.Page, order int) bool {
	return page.Kind == api.PageFree && page.Order == order
}

// askPairs is rule 7.
func askPairs(im *api.Image) {
	for order, words := range im.Pairs {
		all := bits.Of(words, len(words)*wordBits)
		pairs := pairsOf(im, order)
		for pair := range pairs {
			lower := pair << (order + 1)
			upper := lower + 1<<order
			one := isFree(im.Pages[lower], order) != isFree(im.Pages[upper], order)
			must(all.Get(pair) == one, lower)
		}
		must(all.Next(pairs) == none, len(im.Pages))
	}
}
