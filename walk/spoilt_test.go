package walk_test

import (
	"math"
	"slices"
	"testing"

	"croft/api"
)

// address tells one that might stand in a list: most often a page's or a cell's, now and then one close to it or far off.
func address(im api.Image, row *numbers) uint64 {
	p := im.Config.Base
	if len(im.Pages) > 0 {
		p += 4096 * uint64(row.below(len(im.Pages)+2)-1)
	}
	switch row.below(8) {
	case 0:
		return 0
	case 1:
		return p + 16*uint64(row.below(256))
	case 2:
		return p + uint64(row.below(4096))
	case 3:
		return -p
	}
	return p
}

// spoilLists changes the length of one of the lists.
func spoilLists(im *api.Image, row *numbers) {
	switch which := row.below(6); {
	case which == 0:
		im.Mem = resized(im.Mem)[row.below(2)]
	case which == 1:
		im.Pages = resized(im.Pages)[row.below(2)]
	case which == 2 && len(im.Pairs) > 0:
		k := row.below(len(im.Pairs))
		im.Pairs[k] = resized(im.Pairs[k])[row.below(2)]
	case which == 3:
		im.Pairs = resized(im.Pairs)[row.below(2)]
	case which == 4:
		im.Heads = resized(im.Heads)[row.below(2)]
	default:
		im.Partial = resized(im.Partial)[row.below(2)]
	}
}

// spoilPage changes a number of a page, or makes the page another's like.
func spoilPage(im *api.Image, row *numbers) {
	if len(im.Pages) == 0 {
		return
	}
	number := row.below(len(im.Pages))
	page := &im.Pages[number]
	list, ends := fields(im, number)
	switch i := row.below(len(list)); row.below(6) {
	case 0:
		*list[i] = ends[i][0] - row.below(2)
	case 1:
		*list[i] = ends[i][1] + row.below(2)
	case 2:
		*list[i] = ends[i][0] + row.below(1+ends[i][1]-ends[i][0])
	case 3:
		*list[i] += row.below(3) - 1
	case 4:
		*page = im.Pages[row.below(len(im.Pages))]
	default:
		*page = pagesOf(leaf(row.below(im.Config.Order+1), row))[0]
	}
}

// spoilBlock makes a live block a free one, or the other way round, or gives a full page neighbours.
func spoilBlock(im *api.Image, row *numbers) {
	for number, is := range im.Pages {
		if row.below(3) > 0 {
			continue
		}
		switch size := 1 << (is.Order & 15); is.Kind {
		case api.PageFree, api.PageBig:
			for i := range im.Pages[number:min(number+size, len(im.Pages))] {
				im.Pages[number+i].Kind ^= api.PageBig
			}
			return
		case api.PageSlab:
			if is.Live == 256>>(is.Class&7) {
				im.Pages[number].Next, im.Pages[number].Prev = row.below(3)-1, row.below(3)-1
				return
			}
		}
	}
}

// spoilCells turns a cell's bit, most often with Live as it must be.
func spoilCells(im *api.Image, row *numbers) {
	for number := range im.Pages {
		page := &im.Pages[number]
		if page.Kind != api.PageSlab || row.below(3) > 0 {
			continue
		}
		cell := row.below(256 >> (page.Class & 7))
		if row.below(6) == 0 {
			cell = row.below(256)
		}
		page.Bits[cell/64] ^= 1 << (cell % 64)
		if row.below(5) > 0 {
			page.Live = 0
			for cell := range 256 {
				if liveCell(*page, cell) {
					page.Live++
				}
			}
		}
		return
	}
}

// spoilWords changes a link in a free block or a free cell.
func spoilWords(im *api.Image, row *numbers) {
	if len(im.Mem) < 4096 {
		return
	}
	p := uint64(row.below(len(im.Mem)/4096)) * 4096
	if row.below(3) > 0 {
		p += 16 * uint64(row.below(256))
	} else {
		p += 8 * uint64(row.below(2))
	}
	setWord(*im, im.Config.Base+p, address(*im, row))
}

// spoil changes something of an image.
func spoil(im *api.Image, row *numbers) {
	switch row.below(24) {
	case 0:
		im.Config.Limit = []int{0, -1, 1, 64, 65, math.MaxInt}[row.below(6)]
	case 1:
		im.Config.Order += row.below(3) - 1
	case 2:
		im.Config.Base += uint64(row.below(4)) << (10 + row.below(10))
	case 3:
		im.Regions += row.below(3) - 1
	case 4:
		spoilLists(im, row)
	case 5, 6, 7:
		spoilPage(im, row)
	case 8, 9, 10:
		spoilCells(im, row)
	case 11, 12:
		if len(im.Pairs) > 0 {
			if k := row.below(len(im.Pairs)); len(im.Pairs[k]) > 0 {
				turnBit(*im, k, row.below(64))
			}
		}
	case 13, 14:
		if len(im.Heads) > 0 {
			im.Heads[row.below(len(im.Heads))] = address(*im, row)
		}
	case 15, 16, 17:
		spoilBlock(im, row)
	case 18, 19:
		if len(im.Partial) > 0 {
			im.Partial[row.below(len(im.Partial))] = row.below(len(im.Pages)+3) - 2
		}
	default:
		spoilWords(im, row)
	}
}

// P9.1, P9.2, P9.4: images of every Order, most of them spoilt in one place or in several: the first rule that is broken is told, and nothing is changed. Every rule is met.
func TestSpoilt(t *testing.T) {
	met := map[int]int{}
	for seed := range 9000 {
		row := numbers(seed)
		order := min(row.below(9), row.below(9), row.below(9))
		c := config(order, 1+row.below(4))
		im := someImage(c, row.below(min(c.Limit, max(1, 32>>order))+1), &row)
		for range row.below(4) {
			spoil(&im, &row)
		}
		rule, place := wantsTold(t, "spoilt", im)
		met[rule]++
		if rule == 2 {
			met[20+place]++
		}
	}
	for _, which := range []int{0, 1, 2, 3, 4, 5, 6, 7, 8, 9, 10, 11, 20, 21, 22, 23, 24, 25} {
		if met[which] < 8 {
			t.Errorf("%d was met %d times", which, met[which])
		}
	}
}

// P9.1: pages of which all is drawn at random, most often in range.
func TestAnyPages(t *testing.T) {
	met := map[int]int{}
	for seed := range 4000 {
		row := numbers(seed)
		c := config(row.below(4), 3)
		im := someImage(c, 1+row.below(c.Limit), &row)
		for number := range im.Pages {
			if row.below(4) > 0 {
				continue
			}
			list, ends := fields(&im, number)
			for i, field := range list {
				*field = ends[i][0] + row.below(1+ends[i][1]-ends[i][0]+row.below(20)/19)
			}
			if row.below(2) == 0 {
				im.Pages[number] = page(row.below(5), row.below(c.Order+1))
			}
		}
		for k := range im.Pairs {
			if row.below(2) == 0 {
				im.Pairs[k] = pairWords(im.Pages, k)
			}
		}
		rule, _ := wantsTold(t, "any pages", im)
		met[rule]++
	}
	for rule := 3; rule < 9; rule++ {
		if met[rule] == 0 {
			t.Errorf("the rule %d was not met", rule)
		}
	}
}

// firstOf tells changes of hand's image, for each rule one that breaks it alone; in this order each can be done behind all later ones, and none mends what another has broken.
func firstOf() []func(im *api.Image) {
	return []func(im *api.Image){
		func(im *api.Image) { im.Config.Limit = 65 },
		func(im *api.Image) { im.Partial = append(slices.Clone(im.Partial), -1) },
		func(im *api.Image) { im.Pages[9].Next = 16 },
		func(im *api.Image) { im.Pages[10].Live = 1 },
		func(im *api.Image) { im.Pages[6].Live = 1 },
		func(im *api.Image) { im.Pages[3].Kind = api.PageFree },
		func(im *api.Image) { im.Pairs[2][0] = 1 },
		func(im *api.Image) { im.Heads[3] = 1 },
		func(im *api.Image) { im.Pages[7].First = -1 },
		func(im *api.Image) { im.Partial[2] = 3 },
		func(im *api.Image) { im.Pages[6].Prev = 3 },
	}
}

// P9.1: of an image that breaks several rules the first is told, with its place.
func TestFirstRule(t *testing.T) {
	changes := firstOf()
	places := []int{0, 5, 9, 10, 6, 2, 0, 3, 7, 2, 6}
	for i, change := range changes {
		im := hand()
		change(&im)
		wants(t, "one rule", im, i+1, places[i])
		for j := i + 1; j < len(changes); j++ {
			im := hand()
			changes[j](&im)
			change(&im)
			wants(t, "two rules", im, i+1, places[i])
		}
	}
	im := hand()
	for i, change := range slices.Backward(changes) {
		change(&im)
		wants(t, "all rules from one on", im, i+1, places[i])
	}
}

// P9.4, R1: nothing at all, and lists without what they need.
func TestWrongImages(t *testing.T) {
	huge := api.Config{Base: math.MaxUint64, Limit: math.MaxInt, Order: math.MaxInt}
	for _, c := range []api.Config{{}, huge, example(), config(0, 1), config(8, 4)} {
		for _, regions := range []int{math.MinInt, -1, 0, 1, 64, math.MaxInt} {
			im := api.Image{Config: c, Regions: regions}
			wantsTold(t, "no lists", im)
			im.Mem, im.Pages = make([]byte, 4096), make([]api.Page, 1)
			wantsTold(t, "a page", im)
			im.Pairs, im.Heads, im.Partial = [][]uint64{nil, nil}, make([]uint64, 1), make([]int, 8)
			wantsTold(t, "wrong lists", im)
			im.Pairs = nil
			wantsTold(t, "no pairs", im)
		}
	}
}
