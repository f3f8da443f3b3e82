package walk_test

import (
	"math"
	"slices"
	"testing"

	"croft/api"
	"croft/walk"
)

// hand is an image of two regions of eight pages with some of everything in it: of class 0 the pages 0 and 7, of class 4 the pages 1 and 15 on the partial lists, 6 is full; free are 2 and 14, and two pages each at 4 and 12.
func hand() api.Image {
	return laid(api.Config{Base: 1 << 20, Limit: 3, Order: 3},
		cells(0, 0, 5), cells(4, 1), free(0), taken(0), free(1), fullOf(7), cells(0, 255, 3, 64),
		taken(2), free(1), free(0), cells(4, 0, 15))
}

// turn is a change of hand's image, and what Check tells then.
type turn struct {
	what        string
	turn        func(im *api.Image)
	rule, place int
}

func checkTurns(t *testing.T, make func() api.Image, turns []turn) {
	t.Helper()
	for _, one := range turns {
		im := make()
		one.turn(&im)
		wants(t, one.what, im, one.rule, one.place)
		if rule, place := told(im); rule != one.rule || place != one.place {
			t.Errorf("%s: the model tells %d, %d", one.what, rule, place)
		}
	}
}

// What hand's image is, written out.
func TestHand(t *testing.T) {
	im := hand()
	wants(t, "hand", im, 0, 0)
	if im.Regions != 2 || len(im.Mem) != 65536 || len(im.Pages) != 16 {
		t.Error("lengths")
	}
	if !slices.EqualFunc(im.Pairs, [][]uint64{{130}, {10}, {0}}, slices.Equal[[]uint64]) {
		t.Error(im.Pairs)
	}
	if !slices.Equal(im.Heads, []uint64{1<<20 + 8192, 1<<20 + 16384, 0, 0}) {
		t.Error(im.Heads)
	}
	if !slices.Equal(im.Partial, []int{0, -1, -1, -1, 1, -1, -1, -1}) {
		t.Error(im.Partial)
	}
	if im.Pages[7] != (api.Page{Kind: api.PageSlab, Live: 3, Next: -1, Prev: 0, First: 0, Bits: [4]uint64{8, 1, 0, 1 << 63}}) {
		t.Error(im.Pages[7])
	}
	wantsBlocks(t, im, api.Block{P: 1 << 20, Size: 16}, api.Block{P: 1<<20 + 80, Size: 16}, api.Block{P: 1<<20 + 4096 + 256, Size: 256},
		api.Block{P: 1<<20 + 3*4096, Size: 4096}, api.Block{P: 1<<20 + 6*4096, Size: 2048}, api.Block{P: 1<<20 + 6*4096 + 2048, Size: 2048},
		api.Block{P: 1<<20 + 7*4096 + 48, Size: 16}, api.Block{P: 1<<20 + 7*4096 + 1024, Size: 16}, api.Block{P: 1<<20 + 8*4096 - 16, Size: 16},
		api.Block{P: 1<<20 + 8*4096, Size: 16384}, api.Block{P: 1<<20 + 15*4096, Size: 256}, api.Block{P: 1<<20 + 15*4096 + 15*256, Size: 256})
}

// P9.1, rule 1: every Config at an edge of what may be, and one past it.
func TestConfigs(t *testing.T) {
	for order := range 9 {
		r, limit := uint64(4096)<<order, min(64, 1024>>order)
		end := uint64(1)<<63 - uint64(limit)*r
		for _, base := range []uint64{r, 3 * r, 1 << 62, end - r, end} {
			wants(t, "a Config", laid(api.Config{Base: base, Limit: limit, Order: order}), 0, 0)
			wants(t, "a Config", laid(api.Config{Base: base, Limit: 1, Order: order}), 0, 0)
		}
		wants(t, "the last region", laid(api.Config{Base: 1<<63 - r, Limit: 1, Order: order}), 0, 0)
		for _, wrong := range []api.Config{
			{Base: 0, Limit: 1, Order: order}, {Base: 0, Limit: limit, Order: order},
			{Base: r + 1, Limit: 1, Order: order}, {Base: r / 2, Limit: 1, Order: order}, {Base: r + r/2, Limit: 1, Order: order}, {Base: r - 1, Limit: 1, Order: order},
			{Base: end + r, Limit: limit, Order: order}, {Base: 1 << 63, Limit: 1, Order: order}, {Base: 1<<63 + r, Limit: 1, Order: order}, {Base: -r, Limit: 1, Order: order}, {Base: -r, Limit: limit, Order: order},
			{Base: r, Limit: limit + 1, Order: order}, {Base: r, Limit: 0, Order: order}, {Base: r, Limit: -1, Order: order}, {Base: r, Limit: math.MinInt, Order: order}, {Base: r, Limit: math.MaxInt, Order: order}, {Base: r, Limit: 1 << 56, Order: order},
		} {
			im := laid(api.Config{Base: r, Limit: 1, Order: order})
			im.Config = wrong
			wants(t, "a Config that may not be", im, 1, 0)
		}
	}
	for _, order := range []int{-1, 9, 52, 63, 64, 1000, math.MinInt, math.MaxInt} {
		im := laid(api.Config{Base: 1 << 62, Limit: 1, Order: 1})
		im.Config.Order = order
		wants(t, "an Order that may not be", im, 1, 0)
	}
	wants(t, "nothing at all", api.Image{}, 1, 0)
}

// resized tells copies of a list: none, one shorter, one longer, twice as long; none of its own length.
func resized[T any](list []T) [][]T {
	var one T
	all := [][]T{nil, append(slices.Clone(list), one), slices.Concat(list, list, []T{one})}
	if len(list) == 0 {
		return all[1:]
	}
	return append(all, slices.Clone(list[:len(list)-1]))
}

// P9.1, rule 2: of every Order, with no region, one, and as many as may be: each list in each wrong length.
func TestLengths(t *testing.T) {
	for order := range 9 {
		c := config(order, 64)
		for _, regions := range []int{0, 1, c.Limit} {
			im := laid(c, slices.Repeat([]part{free(order)}, regions)...)
			wants(t, "right lengths", im, 0, 0)
			wrong := im
			for _, wrong.Mem = range resized(im.Mem) {
				wants(t, "wrong Mem", wrong, 2, 1)
			}
			wrong = im
			for _, wrong.Pages = range resized(im.Pages) {
				wants(t, "wrong Pages", wrong, 2, 2)
			}
			wrong = im
			for _, wrong.Pairs = range resized(im.Pairs) {
				wants(t, "wrong Pairs", wrong, 2, 3)
			}
			for k := range im.Pairs {
				for _, words := range resized(im.Pairs[k]) {
					wrong.Pairs = slices.Clone(im.Pairs)
					wrong.Pairs[k] = words
					wants(t, "a wrong list in Pairs", wrong, 2, 3)
				}
			}
			wrong = im
			for _, wrong.Heads = range resized(im.Heads) {
				wants(t, "wrong Heads", wrong, 2, 4)
			}
			wrong = im
			for _, wrong.Partial = range resized(im.Partial) {
				wants(t, "wrong Partial", wrong, 2, 5)
			}
		}
	}
}

// P9.1, rule 2: Regions below 0, above Limit, and others than the lists are for.
func TestRegions(t *testing.T) {
	im := hand()
	for _, im.Regions = range []int{math.MinInt, -1 << 40, -1, 4, 64, 65, 1 << 20, 1 << 52, 1 << 61, math.MaxInt} {
		wants(t, "Regions that may not be", im, 2, 0)
	}
	for _, im.Regions = range []int{0, 1, 3} {
		wants(t, "Regions of other lists", im, 2, 1)
	}
	im = hand()
	im.Config.Limit = 1
	wants(t, "more regions than Limit", im, 2, 0)
	im.Config.Limit = 2
	wants(t, "as many regions as Limit", im, 0, 0)
	none := laid(im.Config)
	none.Regions = 1
	wants(t, "a region that is not there", none, 2, 1)
	wants(t, "a Config alone", api.Image{Config: im.Config}, 2, 3)
	wants(t, "a Config alone of Order 0", api.Image{Config: config(0, 1)}, 2, 4)
}

// P9.1, rule 2: the lengths are asked in their order.
func TestLengthsInOrder(t *testing.T) {
	spoilt := []func(im *api.Image){
		func(im *api.Image) { im.Regions = 4 },
		func(im *api.Image) { im.Mem = im.Mem[1:] },
		func(im *api.Image) { im.Pages = im.Pages[1:] },
		func(im *api.Image) { im.Pairs[2] = nil },
		func(im *api.Image) { im.Heads = im.Heads[1:] },
		func(im *api.Image) { im.Partial = im.Partial[1:] },
	}
	for i := range spoilt {
		for j := i; j < len(spoilt); j++ {
			im := hand()
			spoilt[j](&im)
			spoilt[i](&im)
			wants(t, "two lengths", im, 2, i)
		}
	}
}

// fields tells pointers to the numbers of a page, and the ranges of P4.6 for them.
func fields(im *api.Image, number int) (list []*int, ends [][2]int) {
	p := &im.Pages[number]
	last := len(im.Pages) - 1
	return []*int{&p.Kind, &p.Order, &p.Class, &p.Live, &p.Next, &p.Prev, &p.First},
		[][2]int{{0, 4}, {0, im.Config.Order}, {0, 7}, {0, 256}, {-1, last}, {-1, last}, {-1, 255}}
}

// P9.1, rule 3: each field of each page at the ends of its range, and past them; the first such page is the place.
func TestRanges(t *testing.T) {
	for _, im := range []api.Image{hand(), slabbed(), laid(config(0, 3), free(0), cells(2, 1), taken(0))} {
		for number := range im.Pages {
			list, ends := fields(&im, number)
			for i, field := range list {
				was := *field
				for _, *field = range []int{ends[i][0] - 1, ends[i][1] + 1, math.MinInt, math.MaxInt, ends[i][0] - 1<<32, ends[i][1] + 1<<32} {
					wants(t, "a field out of range", im, 3, number)
					later := copied(im)
					later.Pages[len(later.Pages)-1].Kind = 5
					wants(t, "two pages out of range", later, 3, number)
				}
				for _, *field = range ends[i] {
					if rule, _ := wantsTold(t, "a field at its end", im); rule == 3 {
						t.Errorf("page %d, field %d: %d is in range", number, i, *field)
					}
				}
				*field = was
			}
		}
		wants(t, "as it was", im, 0, 0)
	}
}

// P9.1, rule 4.
func TestBlocksOfPages(t *testing.T) {
	var turns []turn
	add := func(what string, place int, change func(im *api.Image)) {
		turns = append(turns, turn{what, change, 4, place})
	}
	add("a block's first page is of a rest's kind", 0, func(im *api.Image) { im.Pages[0] = page(api.PageFreeRest, 0) })
	add("a block's first page is of a live rest's kind", 3, func(im *api.Image) { im.Pages[3].Kind = api.PageBigRest })
	add("a rest behind the end of its block", 14, func(im *api.Image) { im.Pages[14] = page(api.PageFreeRest, 1) })
	add("a live block at no multiple of its size", 3, func(im *api.Image) { im.Pages[3].Order = 1 })
	add("a free block at no multiple of its size", 14, func(im *api.Image) { im.Pages[14].Order = 2 })
	add("a whole block at no multiple of its size", 10, func(im *api.Image) {
		im.Pages[8], im.Pages[9] = page(api.PageBig, 1), page(api.PageBigRest, 1)
		im.Pages[10], im.Pages[12], im.Pages[13] = page(api.PageBig, 2), page(api.PageBigRest, 2), page(api.PageBigRest, 2)
	})
	add("the last page begins a block of two", 15, func(im *api.Image) { im.Pages[15] = page(api.PageBig, 1) })
	add("the last but one begins a block of eight", 14, func(im *api.Image) { im.Pages[14] = page(api.PageFree, 3) })
	add("a block that goes on over others", 1, func(im *api.Image) { im.Pages[0] = page(api.PageBig, 1) })
	add("a block that goes on over another", 9, func(im *api.Image) { im.Pages[9] = page(api.PageBig, 0) })
	add("a page in the midst of another Order", 10, func(im *api.Image) { im.Pages[10].Order = 1 })
	add("a page in the midst of the other kind", 11, func(im *api.Image) { im.Pages[11].Kind = api.PageFreeRest })
	add("a page in the midst that begins one", 5, func(im *api.Image) { im.Pages[5].Kind = api.PageFree })
	add("a slab page in the midst", 13, func(im *api.Image) { im.Pages[13] = im.Pages[0] })
	add("a slab page of Order 1", 0, func(im *api.Image) { im.Pages[0].Order = 1 })
	add("the last slab page of Order 3", 15, func(im *api.Image) { im.Pages[15].Order = 3 })
	add("a slab page of Order 3 that begins a region", 8, func(im *api.Image) { im.Pages[8] = im.Pages[0]; im.Pages[8].Order = 3 })
	for _, number := range []int{2, 3, 4, 5, 8, 9, 10, 11, 12, 13, 14} {
		add("Class", number, func(im *api.Image) { im.Pages[number].Class = 1 })
		add("Live", number, func(im *api.Image) { im.Pages[number].Live = 1 })
		add("Next", number, func(im *api.Image) { im.Pages[number].Next = 0 })
		add("Prev", number, func(im *api.Image) { im.Pages[number].Prev = 15 })
		add("First", number, func(im *api.Image) { im.Pages[number].First = 0 })
		for word := range 4 {
			add("Bits", number, func(im *api.Image) { im.Pages[number].Bits[word] = 1 << 63 })
		}
		add("Bits, and a later page", number, func(im *api.Image) {
			im.Pages[number].Bits[0] = 1
			im.Pages[15].Order = 1
		})
	}
	checkTurns(t, hand, turns)
}

// P9.1, rule 5.
func TestCells(t *testing.T) {
	var turns []turn
	add := func(what string, place int, change func(im *api.Image)) {
		turns = append(turns, turn{what, change, 5, place})
	}
	for _, number := range []int{0, 1, 6, 7, 15} {
		add("no live cell", number, func(im *api.Image) { im.Pages[number].Live, im.Pages[number].Bits = 0, [4]uint64{} })
		add("no bit", number, func(im *api.Image) { im.Pages[number].Bits = [4]uint64{} })
		add("Live 0", number, func(im *api.Image) { im.Pages[number].Live = 0 })
		add("one more live", number, func(im *api.Image) { im.Pages[number].Live++ })
		add("one fewer live", number, func(im *api.Image) { im.Pages[number].Live-- })
		add("256 live", number, func(im *api.Image) { im.Pages[number].Live = 256 })
		add("a bit more", number, func(im *api.Image) { im.Pages[number].Bits[0] ^= 4 })
		add("one fewer live, and a later page", number, func(im *api.Image) {
			im.Pages[number].Live--
			im.Pages[15].Live = 100
		})
	}
	for _, number := range []int{1, 15} { // of class 4: sixteen cells
		for _, cell := range []int{16, 17, 63, 64, 127, 128, 192, 255} {
			add("a cell that is not there", number, func(im *api.Image) {
				im.Pages[number].Bits[cell/64] |= 1 << (cell % 64)
				im.Pages[number].Live++
			})
		}
	}
	add("a cell of 2048 bytes that is not there", 6, func(im *api.Image) { im.Pages[6].Bits[0], im.Pages[6].Live = 7, 3 })
	add("that in the place of one", 6, func(im *api.Image) { im.Pages[6].Bits[0] = 6 })
	checkTurns(t, hand, turns)
}

// P9.1, rule 5: of each class the last cell may be live, the next one is none.
func TestLastCells(t *testing.T) {
	for class := range 8 {
		last := 256>>class - 1
		im := laid(config(0, 2), taken(0), cells(class, last))
		wants(t, "the last cell is live", im, 0, 0)
		wants(t, "all cells are live", laid(config(0, 2), fullOf(class)), 0, 0)
		if class > 0 {
			im.Pages[1].Bits[(last+1)/64] |= 1 << ((last + 1) % 64)
			im.Pages[1].Live = 2
			wants(t, "the cell behind the last", im, 5, 1)
		}
	}
}

// P9.1, rule 6: of every Order two free halves of each order below it, alone, and with others behind them.
func TestHalves(t *testing.T) {
	for order := 1; order < 9; order++ {
		c := config(order, 2)
		for k := range order {
			step := max(2<<k, 1<<order/4) // not all places of the great ones
			for first := 0; first < 2<<order; first += step {
				im := laid(c, tiled(c, first, free(k), free(k))...)
				wants(t, "two halves", im, 6, first)
			}
			for first := 1 << k; first+2<<k <= 2<<order; first += step {
				im := laid(c, tiled(c, first, free(k), free(k))...)
				wants(t, "two that are no halves", im, 0, 0)
			}
		}
		wants(t, "two regions", laid(c, free(order), free(order)), 0, 0)
	}
}

// tiled tells parts for two regions: these at a page, all others live pages.
func tiled(c api.Config, first int, parts ...part) []part {
	list := slices.Repeat([]part{taken(0)}, first)
	list = append(list, parts...)
	pages := 0
	for _, is := range list {
		pages += 1 << is.order
	}
	return append(list, slices.Repeat([]part{taken(0)}, 2*regionPages(c)-pages)...)
}

// P9.1, rule 6: the place is the first page of such halves, whatever their orders.
func TestFirstHalves(t *testing.T) {
	c := config(3, 2)
	wants(t, "greater ones ahead", laid(c, free(1), free(1), free(0), free(0), taken(1), free(3)), 6, 0)
	wants(t, "lesser ones ahead", laid(c, taken(1), free(0), free(0), free(1), free(1), free(3)), 6, 2)
	wants(t, "in the second region", laid(c, taken(3), taken(2), taken(1), free(0), free(0)), 6, 14)
	wants(t, "the halves of a region", laid(c, taken(3), free(2), free(2)), 6, 8)
	wants(t, "three", laid(c, taken(3), free(1), free(1), free(1), taken(1)), 6, 8)
	wants(t, "unlike ones", laid(c, taken(3), free(1), free(0), taken(0), taken(2)), 0, 0)
	wants(t, "a free and a live one", laid(c, free(2), taken(2), taken(2), free(2)), 0, 0)
}

// P9.1, rule 7: each bit of each order's words, turned; the pairs' first pages are the places, and the number of pages.
func TestPairs(t *testing.T) {
	for order := 1; order < 9; order++ {
		c := config(order, 64)
		row := numbers(order)
		for _, regions := range []int{1, min(3, c.Limit), c.Limit} {
			im := someImage(c, regions, &row)
			for k := range im.Pairs {
				for bit := range 64 * len(im.Pairs[k]) {
					if bit > 140 && bit%37 != 0 {
						continue
					}
					turnBit(im, k, bit)
					if rule, place := walk.Check(im); rule != 7 || place != min(bit*(2<<k), len(im.Pages)) {
						t.Errorf("the bit %d of order %d: %d, %d", bit, k, rule, place)
					}
					turnBit(im, k, bit)
				}
			}
			wants(t, "all as it was", im, 0, 0)
		}
	}
}

func turnBit(im api.Image, order, bit int) { im.Pairs[order][bit/64] ^= 1 << (bit % 64) }

// P9.1, rule 7: order by order, pair by pair, the bits beyond the last pair behind these.
func TestPairsInOrder(t *testing.T) {
	var turns []turn
	add := func(what string, place int, bits ...int) {
		turns = append(turns, turn{what, func(im *api.Image) {
			for i := 0; i < len(bits); i += 2 {
				turnBit(*im, bits[i], bits[i+1])
			}
		}, 7, place})
	}
	add("two of order 0", 2, 0, 7, 0, 1)
	add("one of order 0 and one of order 1", 14, 1, 0, 0, 7)
	add("one of order 2 and one of order 1", 12, 2, 0, 1, 3)
	add("another bit and a pair", 10, 0, 8, 0, 5)
	add("another bit of order 0 and a pair of order 1", 16, 0, 8, 1, 0)
	add("the last bit of order 2", 16, 2, 63)
	add("the first other bit of order 2", 16, 2, 2)
	checkTurns(t, hand, turns)
}
