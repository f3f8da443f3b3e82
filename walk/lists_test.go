package walk_test

import (
	"math"
	"testing"

	"croft/api"
)

// put sets the word at an offset behind a page's beginning.
func put(page int, offset, word uint64) func(im *api.Image) {
	return func(im *api.Image) { setWord(*im, at(*im, page)+offset, word) }
}

// from tells an address by its offset from hand's Base.
func from(offset uint64) uint64 { return 1<<20 + offset }

// noBlocks tells addresses that begin no page of hand's image: below Base, behind Mem, between two pages, near 2^64.
func noBlocks() []uint64 {
	return []uint64{
		1, 8, 4096, 1<<20 - 4096, 1<<20 - 1, from(1), from(8), from(2*4096 + 16), from(2*4096 + 1), from(4*4096 - 1), from(4*4096 + 8), from(4*4096 + 2048),
		from(16 * 4096), from(16*4096 + 8), from(17 * 4096), 1 << 32, 1<<32 + from(8192), 1 << 52, 1<<63 + from(8192), 1<<64 - 4096, 1<<64 - 8, 1<<64 - 1,
	}
}

// P9.1, rule 8: free blocks of order 0 begin at the pages 2 and 14, of order 1 at 4 and 12.
func TestFreeLists(t *testing.T) {
	var turns []turn
	add := func(what string, place int, change func(im *api.Image)) {
		turns = append(turns, turn{what, change, 8, place})
	}
	head := func(order int, p uint64) func(im *api.Image) {
		return func(im *api.Image) { im.Heads[order] = p }
	}
	for _, p := range noBlocks() {
		add("a head that is no page", 0, head(0, p))
		add("a head that is no page", 1, head(1, p))
		add("a head that is no page", 3, head(3, p))
		add("a first word that leads to no page", 0, put(2, 0, p))
		add("a last word that leads to no page", 0, put(14, 0, p))
		add("a last word that leads to no page", 1, put(12, 0, p))
		add("a word back that leads to no page", 0, put(14, 8, p))
		add("a first word back", 1, put(4, 8, p))
	}
	for number := range uint64(16) {
		p := from(4096 * number)
		if number != 2 {
			add("a head that is another page", 0, head(0, p))
		}
		if number != 4 {
			add("a head that is another page", 1, head(1, p))
		}
		add("a head of order 2", 2, head(2, p))
		add("a head of order 3", 3, head(3, p))
		if number != 14 {
			add("a word that leads to another page", 0, put(2, 0, p))
		}
		add("a last word that leads on", 0, put(14, 0, p))
		add("a last word that leads on", 1, put(12, 0, p))
		add("a first word back", 0, put(2, 8, p))
		if number != 2 {
			add("a word back to another page", 0, put(14, 8, p))
		}
	}
	add("none on the list", 0, head(0, 0))
	add("none on the list", 1, head(1, 0))
	add("the last one missing", 0, put(2, 0, 0))
	add("the last one missing", 1, put(4, 0, 0))
	add("the first one missing", 0, func(im *api.Image) { im.Heads[0] = from(14 * 4096); setWord(*im, from(14*4096+8), 0) })
	add("the last one's word back 0", 0, put(14, 8, 0))
	add("a ring of both", 1, func(im *api.Image) {
		setWord(*im, from(12*4096), from(4*4096))
		setWord(*im, from(4*4096+8), from(12*4096))
	})
	add("a ring of one", 1, func(im *api.Image) {
		setWord(*im, from(4*4096), from(4*4096))
		setWord(*im, from(4*4096+8), from(4*4096))
	})
	add("a ring of the last one", 0, put(14, 0, from(14*4096)))
	add("one of another order behind the last", 0, func(im *api.Image) {
		setWord(*im, from(14*4096), from(4*4096))
		setWord(*im, from(4*4096+8), from(14*4096))
	})
	add("the lists of two orders exchanged", 0, func(im *api.Image) { im.Heads[0], im.Heads[1] = im.Heads[1], im.Heads[0] })
	add("the lists of two orders wrong", 1, func(im *api.Image) { im.Heads[1], im.Heads[2] = 0, 5 })
	checkTurns(t, hand, turns)
}

// P9.1, rule 8: an address between two pages, with words there as they would have to be at a page's beginning.
func TestBetweenPages(t *testing.T) {
	for _, off := range []uint64{1, 7, 8, 16, 1024, 2048, 4080} {
		im := halfFree()
		im.Heads[0] = 69632 + off
		wants(t, "the only one", im, 8, 0)

		im = hand()
		setWord(im, from(2*4096), from(14*4096+off))
		setWord(im, from(14*4096+off), 0)
		setWord(im, from(14*4096+off+8), from(2*4096))
		wants(t, "the last one", im, 8, 0)

		im = hand()
		im.Heads[1] = from(4*4096 + off)
		setWord(im, from(4*4096+off), from(12*4096))
		setWord(im, from(4*4096+off+8), 0)
		setWord(im, from(12*4096+8), from(4*4096+off))
		wants(t, "the first one", im, 8, 1)
	}
}

// noCells tells addresses that begin no cell of the page 1 of hand's image (of class 4: 256 bytes): outside the page, between two of its cells.
func noCells() []uint64 {
	return append(noBlocks(), from(0), from(256), from(4095), from(4096+1), from(4096+8), from(4096+255), from(4096+128), from(4096+3840+16), from(2*4096-16), from(2*4096-1), from(2*4096), from(2*4096+256), from(15*4096+512))
}

// P9.1, rule 9: of the page 1's sixteen cells the cell 1 is live, the others stand on its list, rising.
func TestCellLists(t *testing.T) {
	var turns []turn
	add := func(what string, place int, change func(im *api.Image)) {
		turns = append(turns, turn{what, change, 9, place})
	}
	first := func(number, cell int) func(im *api.Image) {
		return func(im *api.Image) { im.Pages[number].First = cell }
	}
	for _, cell := range []int{-1, 1, 2, 3, 15, 16, 17, 64, 255} {
		add("First", 1, first(1, cell))
	}
	for _, cell := range []int{-1, 0, 2, 3, 15, 16, 255} { // its cells 0 and 15 are live
		add("First", 15, first(15, cell))
	}
	for _, cell := range []int{0, 1, 2, 255} {
		add("First of a full page", 6, first(6, cell))
	}
	for _, p := range noCells() {
		add("a first word that leads to no cell", 1, put(1, 0, p))
		add("a last word that leads to no cell", 1, put(1, 3840, p))
		add("a word that leads to no cell", 1, put(1, 5*256, p))
	}
	for cell := range uint64(16) {
		p := from(4096 + 256*cell)
		if cell != 2 {
			add("a first word that leads to another cell", 1, put(1, 0, p))
		}
		if cell != 8 {
			add("a word that leads to another cell", 1, put(1, 7*256, p))
		}
		add("a last word that leads on", 1, put(1, 3840, p))
	}
	add("a word 0 ahead of the last", 1, put(1, 14*256, 0))
	add("a first word 0", 1, put(1, 0, 0))
	add("a first word 0", 0, put(0, 16, 0))
	add("the last cell's page end", 0, put(0, 4080, from(4096)))
	add("a ring of cells of 16 bytes", 7, put(7, 4064, from(7*4096))) // the cell 254 is the last free one
	add("a live cell's neighbour leads to it", 7, put(7, 2*16, from(7*4096+3*16)))
	add("one becomes live and stays on the list", 1, func(im *api.Image) { im.Pages[1].Bits[0] |= 4; im.Pages[1].Live++ })
	add("one is no longer live and not on the list", 15, func(im *api.Image) { im.Pages[15].Bits[0] = 1; im.Pages[15].Live-- })
	add("two pages", 1, func(im *api.Image) { im.Pages[15].First, im.Pages[1].First = -1, -1 })
	checkTurns(t, hand, turns)
}

// P9.1, rule 10: of class 0 the pages 0 and 7, of class 4 the pages 1 and 15 stand on the partial lists.
func TestPartialLists(t *testing.T) {
	var turns []turn
	add := func(what string, place int, change func(im *api.Image)) {
		turns = append(turns, turn{what, change, 10, place})
	}
	head := func(class, number int) func(im *api.Image) {
		return func(im *api.Image) { im.Partial[class] = number }
	}
	for _, number := range []int{math.MinInt, -1 << 32, -5, -2, 16, 17, 64, 1 << 20, 1 << 32, math.MaxInt} {
		for class := range 8 {
			add("a head that is no page", class, head(class, number))
		}
	}
	for number := range 16 {
		if number != 0 {
			add("a head that is another page", 0, head(0, number))
		}
		if number != 1 {
			add("a head that is another page", 4, head(4, number))
		}
		add("a head of a class without pages", 3, head(3, number))
		add("a head of a class with a full page alone", 7, head(7, number))
		if number != 7 {
			add("a Next that is another page", 0, func(im *api.Image) { im.Pages[0].Next = number })
		}
		add("a last Next", 0, func(im *api.Image) { im.Pages[7].Next = number })
		add("a last Next", 4, func(im *api.Image) { im.Pages[15].Next = number })
		add("a first Prev", 4, func(im *api.Image) { im.Pages[1].Prev = number })
		if number != 0 {
			add("a Prev that is another page", 0, func(im *api.Image) { im.Pages[7].Prev = number })
		}
	}
	add("none on the list", 0, head(0, -1))
	add("the last one missing", 4, func(im *api.Image) { im.Pages[1].Next = -1 })
	add("the first one missing", 4, func(im *api.Image) { im.Partial[4], im.Pages[15].Prev = 15, -1 })
	add("the last one's Prev -1", 4, func(im *api.Image) { im.Pages[15].Prev = -1 })
	add("a ring of both", 0, func(im *api.Image) { im.Pages[7].Next, im.Pages[0].Prev = 0, 7 })
	add("a ring of one", 0, func(im *api.Image) { im.Pages[0].Next, im.Pages[0].Prev = 0, 0 })
	add("a ring of the last one", 4, func(im *api.Image) { im.Pages[15].Next = 15 })
	add("a page of another class behind the last", 0, func(im *api.Image) { im.Pages[7].Next, im.Pages[1].Prev = 1, 7 })
	add("a full page of that class", 7, func(im *api.Image) { im.Partial[7] = 6 })
	add("two classes", 0, func(im *api.Image) { im.Partial[4], im.Partial[0] = -1, -1 })
	add("a page that becomes full and stays", 4, func(im *api.Image) {
		im.Pages[15].Bits[0], im.Pages[15].Live, im.Pages[15].First = 1<<16-1, 16, -1
	})
	add("a full page that gets a free cell", 7, func(im *api.Image) {
		im.Pages[6].Bits[0], im.Pages[6].Live, im.Pages[6].First = 2, 1, 0
	})
	checkTurns(t, hand, turns)
}

// P9.1, rule 11, with two full pages.
func TestFullPages(t *testing.T) {
	two := func() api.Image {
		return laid(config(2, 2), fullOf(0), cells(0, 4), fullOf(3), fullOf(7))
	}
	var turns []turn
	add := func(what string, place int, change func(im *api.Image)) {
		turns = append(turns, turn{what, change, 11, place})
	}
	for _, number := range []int{0, 2, 3} {
		for other := range 4 {
			add("Next", number, func(im *api.Image) { im.Pages[number].Next = other })
			add("Prev", number, func(im *api.Image) { im.Pages[number].Prev = other })
			add("both", number, func(im *api.Image) { im.Pages[number].Next, im.Pages[number].Prev = other, other })
			add("and a later one", number, func(im *api.Image) { im.Pages[number].Next, im.Pages[3].Prev = 0, 0 })
		}
	}
	wants(t, "full pages", two(), 0, 0)
	checkTurns(t, two, turns)
}
