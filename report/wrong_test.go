package report_test

import (
	"math"
	"slices"
	"testing"

	"croft/api"
	"croft/report"
	"croft/walk"
)

// change is one of hand's image that breaks a rule of chapter 9, at that place.
type change struct {
	rule, place int
	do          func(im *api.Image)
}

// changes tells for each rule some that break it.
func changes() []change {
	return []change{
		{1, 0, func(im *api.Image) { im.Config.Limit = 65 }},
		{1, 0, func(im *api.Image) { im.Config.Limit = 0 }},
		{1, 0, func(im *api.Image) { im.Config.Base++ }},
		{1, 0, func(im *api.Image) { im.Config.Base = 0 }},
		{1, 0, func(im *api.Image) { im.Config.Base = 1 << 63 }},
		{1, 0, func(im *api.Image) { im.Config.Order = -1 }},
		{1, 0, func(im *api.Image) { im.Config.Order = 9 }},
		{2, 0, func(im *api.Image) { im.Regions = 4 }},
		{2, 0, func(im *api.Image) { im.Regions = -1 }},
		{2, 1, func(im *api.Image) { im.Regions = 1 }},
		{2, 1, func(im *api.Image) { im.Regions = 3 }},
		{2, 1, func(im *api.Image) { im.Mem = im.Mem[1:] }},
		{2, 1, func(im *api.Image) { im.Config.Order = 2 }},
		{2, 2, func(im *api.Image) { im.Pages = im.Pages[1:] }},
		{2, 2, func(im *api.Image) { im.Pages = append(im.Pages, im.Pages[3]) }},
		{2, 3, func(im *api.Image) { im.Pairs = im.Pairs[1:] }},
		{2, 3, func(im *api.Image) { im.Pairs[2] = nil }},
		{2, 4, func(im *api.Image) { im.Heads = im.Heads[:3] }},
		{2, 5, func(im *api.Image) { im.Partial = im.Partial[:7] }},
		{3, 9, func(im *api.Image) { im.Pages[9].Next = 16 }},
		{3, 0, func(im *api.Image) { im.Pages[0].Class = 8 }},
		{3, 0, func(im *api.Image) { im.Pages[0].Class = math.MinInt }},
		{3, 3, func(im *api.Image) { im.Pages[3].Kind = 5 }},
		{3, 8, func(im *api.Image) { im.Pages[8].Order = math.MaxInt }},
		{3, 1, func(im *api.Image) { im.Pages[1].Live = -1 }},
		{4, 10, func(im *api.Image) { im.Pages[10].Live = 1 }},
		{4, 3, func(im *api.Image) { im.Pages[3].Order = 1 }},
		{4, 9, func(im *api.Image) { im.Pages[9].Kind = api.PageBig }},
		{4, 0, func(im *api.Image) { im.Pages[0].Kind = api.PageFreeRest }},
		{5, 6, func(im *api.Image) { im.Pages[6].Live = 1 }},
		{5, 1, func(im *api.Image) { im.Pages[1].Live, im.Pages[1].Bits[0] = 0, 0 }},
		{5, 15, func(im *api.Image) { im.Pages[15].Live, im.Pages[15].Bits[3] = 3, 1 }},
		{6, 2, func(im *api.Image) { im.Pages[3].Kind = api.PageFree }},
		{7, 0, func(im *api.Image) { im.Pairs[2][0] = 1 }},
		{7, 16, func(im *api.Image) { im.Pairs[1][0] |= 1 << 63 }},
		{8, 3, func(im *api.Image) { im.Heads[3] = 1 }},
		{8, 0, func(im *api.Image) { im.Heads[0] = 0 }},
		{8, 1, func(im *api.Image) { setWord(*im, at(*im, 4), at(*im, 4)) }},
		{9, 7, func(im *api.Image) { im.Pages[7].First = -1 }},
		{9, 1, func(im *api.Image) { setWord(*im, cellAt(*im, 1, 0), 1) }},
		{10, 2, func(im *api.Image) { im.Partial[2] = 3 }},
		{10, 4, func(im *api.Image) { im.Partial[4] = -1 }},
		{10, 0, func(im *api.Image) { im.Pages[7].Prev = -1 }},
		{11, 6, func(im *api.Image) { im.Pages[6].Prev = 3 }},
		{11, 6, func(im *api.Image) { im.Pages[6].Next = 6 }},
	}
}

// P20.2: an image that is not sound, by each of the rules: no text, no numbers, -1, of right sizes and of wrong ones.
func TestNotSound(t *testing.T) {
	met := map[int]int{}
	for _, one := range changes() {
		im := hand()
		one.do(&im)
		if rule, place := walk.Check(im); rule != one.rule || place != one.place {
			t.Fatalf("%d, %d, not %d, %d", rule, place, one.rule, one.place)
		}
		met[one.rule]++
		wantsNothing(t, "not sound", im)
	}
	for rule := 1; rule <= 11; rule++ {
		if met[rule] == 0 {
			t.Errorf("the rule %d is not broken by any", rule)
		}
	}
	wantsImage(t, hand())
}

// P20.2: one that is not sound and has no region: -1, where a sound one has 0.
func TestNotSoundWithoutRegion(t *testing.T) {
	for order := range 9 {
		im := laid(config(order, 2))
		im.Heads[order] = im.Config.Base
		wantsNothing(t, "a head", im)
		im = laid(config(order, 2))
		im.Partial[7] = 0
		wantsNothing(t, "a partial page", im)
		im = laid(config(order, 2))
		im.Regions = 1
		wantsNothing(t, "a region that is not there", im)
		im = laid(config(order, 2))
		im.Config.Base = 0
		wantsNothing(t, "no Base", im)
	}
}

// P20.2, R1: nothing at all, lists without what they need, numbers of every size.
func TestWrongImages(t *testing.T) {
	huge := api.Config{Base: math.MaxUint64, Limit: math.MaxInt, Order: math.MaxInt}
	least := api.Config{Base: 1, Limit: math.MinInt, Order: math.MinInt}
	for _, c := range []api.Config{{}, huge, least, example(), config(0, 1), config(8, 4)} {
		for _, regions := range []int{math.MinInt, -1, 0, 1, 64, math.MaxInt} {
			im := api.Image{Config: c, Regions: regions}
			wantsNothing(t, "no lists", im)
			im.Mem, im.Pages = make([]byte, 4096), make([]api.Page, 1)
			wantsNothing(t, "a page", im)
			im.Pairs, im.Heads, im.Partial = [][]uint64{nil, nil}, make([]uint64, 1), make([]int, 8)
			wantsNothing(t, "wrong lists", im)
		}
	}
}

// anyNumber tells one for a field of a page: most often a small one.
func anyNumber(row *numbers) int {
	if row.below(8) == 0 {
		return []int{math.MinInt, math.MaxInt, 1 << 32, -1 << 32, 64, 255, 256, 257}[row.below(8)]
	}
	return row.below(18) - 2
}

// fieldOf tells one of the numbers of a page.
func fieldOf(page *api.Page, which int) *int {
	return []*int{&page.Kind, &page.Order, &page.Class, &page.Live, &page.Next, &page.Prev, &page.First}[which]
}

// spoil changes something of an image that has pages.
func spoil(im *api.Image, row *numbers) {
	page := row.below(len(im.Pages))
	switch row.below(12) {
	case 0:
		im.Config = api.Config{Base: row.word() >> row.below(64) << row.below(64), Limit: anyNumber(row), Order: anyNumber(row)}
	case 1:
		im.Regions = anyNumber(row)
	case 2:
		im.Heads[row.below(len(im.Heads))] = at(*im, row.below(len(im.Pages)))
	case 3:
		im.Partial[row.below(8)] = anyNumber(row)
	case 4:
		im.Pages[page] = im.Pages[row.below(len(im.Pages))]
	case 5:
		cell := row.below(256)
		im.Pages[page].Bits[cell/64] ^= 1 << (cell % 64)
		im.Pages[page].Live += row.below(3) - 1
	case 6:
		im.Mem[row.below(len(im.Mem))] ^= byte(1 + row.below(255))
	case 7:
		if list := im.Pairs; len(list) > 0 {
			list[row.below(len(list))][0] ^= 1 << row.below(64)
		}
	default:
		*fieldOf(&im.Pages[page], row.below(7)) = anyNumber(row)
	}
}

// P20.2, R1: images of every Order that were spoilt in some places: nothing is told just if walk.Check finds them not sound; of the others all is as ever.
func TestSpoilt(t *testing.T) {
	kept, broken := 0, 0
	for seed := range 4000 {
		row := numbers(seed)
		c := config(min(row.below(9), row.below(9), row.below(9)), 3)
		im := someImage(c, 1+row.below(min(c.Limit, max(1, 8>>c.Order))), &row)
		for range 1 + row.below(3) {
			spoil(&im, &row)
		}
		if rule, _ := walk.Check(im); rule != 0 {
			broken++
			wantsNothing(t, "spoilt", im)
			continue
		}
		kept++
		wantsImage(t, im)
	}
	if kept < 100 || broken < 1000 {
		t.Errorf("%d are sound, %d are not", kept, broken)
	}
}

// R1: sizes of every kind with images of every kind: -1, or from 0 to 1000.
func TestAnyNumbers(t *testing.T) {
	for seed := range 3000 {
		row := numbers(seed)
		c := config(row.below(4), 3)
		im := someImage(c, row.below(4), &row)
		r := row.word() >> row.below(64)
		if row.below(2) == 0 {
			r = 1 << row.below(64)
		}
		want := -1
		if slices.Contains(sizesOf(c), r) {
			want = wasteBy(im, r)
		}
		if got := report.Waste(im, r); got != want || got < -1 || got > 1000 {
			t.Errorf("Waste of %d: %d, not %d", r, got, want)
		}
	}
}
