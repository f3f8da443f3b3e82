package oracle_test

import (
	"math"
	"slices"
	"testing"

	"croft/api"
	"croft/oracle"
)

// P11.3: with no region nothing fits; with regions and no block all fits.
func TestNoFitEmpty(t *testing.T) {
	for order := range 9 {
		c := config(order, 3)
		for _, r := range sizesOf(c) {
			wantsNoFit(t, c, 0, nil, r, true)
			for regions := 1; regions <= c.Limit; regions++ {
				wantsNoFit(t, c, regions, nil, r, false)
				wantsNoFit(t, c, regions, cells(c.Base, region(c), regions), r, true)
				wantsNoFit(t, c, regions, cells(c.Base, region(c), regions-1), r, false)
			}
		}
	}
}

// P11.3: an r that is no size of a block, of a sound list in which nothing fits: false, both.
func TestNoFitWrongSize(t *testing.T) {
	for order := range 9 {
		c := config(order, 2)
		all := cells(c.Base, region(c), c.Limit)
		for _, r := range append(nearPowers(), 0, 8, 24, 2*region(c), math.MaxUint64) {
			is := slices.Contains(sizesOf(c), r)
			wantsNoFit(t, c, c.Limit, all, r, is)
			wantsNoFit(t, c, 0, nil, r, is)
		}
	}
}

// P11.3: a list that is not sound, or regions that can't be: false, both, even where all pages are met.
func TestNoFitNotSound(t *testing.T) {
	for order := range 9 {
		c := config(order, 2)
		all := cells(c.Base, region(c), c.Limit)
		for _, r := range sizesOf(c) {
			wantsNoFit(t, c, c.Limit, append(slices.Clone(all), all[0]), r, false)
			wantsNoFit(t, c, c.Limit, append(slices.Clone(all), api.Block{}), r, false)
			wantsNoFit(t, c, c.Limit-1, all, r, false)
			wantsNoFit(t, c, c.Limit+1, all, r, false)
			wantsNoFit(t, c, -1, nil, r, false)
			wantsNoFit(t, c, c.Limit+1, nil, r, false)
		}
		mixed := append(cells(c.Base, 16, 1), cells(c.Base+32, 32, 1)...)
		wantsNoFit(t, c, 1, mixed, region(c), false)
	}
}

// P11.3: a page full of cells, and one with one cell left, wherever that is: just the class of the page finds it.
func TestNoFitOneCell(t *testing.T) {
	c := config(0, 3)
	for _, size := range sizesOf(c)[:8] {
		count := int(4096 / size)
		full := cells(c.Base, size, count)
		for _, r := range sizesOf(c) {
			wantsNoFit(t, c, 1, full, r, true)
			for _, i := range []int{0, 1, count / 2, count - 1} {
				wantsNoFit(t, c, 1, slices.Delete(slices.Clone(full), i, i+1), r, r != size)
			}
			two := append(slices.Clone(full), cells(c.Base+4096, size, count-1)...)
			wantsNoFit(t, c, 2, two, r, r != size)
			wantsNoFit(t, c, 3, two, r, false)
		}
	}
}

// P11.3: a free stretch fits a block only at a multiple of the block's size.
func TestNoFitStretches(t *testing.T) {
	c := config(3, 2)
	page := func(number uint64) uint64 { return c.Base + 4096*number }
	for _, row := range []struct {
		met  []uint64 // the numbers of pages that meet a block
		most uint64   // the greatest size that fits; 0: none
	}{
		{[]uint64{0, 1, 2, 3}, 16384},
		{[]uint64{4, 5, 6, 7}, 16384},
		{[]uint64{0, 1, 6, 7}, 8192},
		{[]uint64{0, 5, 6, 7}, 8192},
		{[]uint64{0, 2, 5, 7}, 4096},
		{[]uint64{0, 3, 4, 7}, 4096},
		{[]uint64{0, 3, 5, 6}, 4096},
		{[]uint64{0, 7}, 8192},
		{[]uint64{7}, 16384},
		{[]uint64{3}, 16384},
		{[]uint64{0, 1, 2, 3, 4, 5, 6, 7}, 0},
		{nil, 32768},
	} {
		for _, size := range []uint64{16, 2048, 4096} {
			var list []api.Block
			for _, number := range row.met {
				list = append(list, api.Block{P: page(number) + 4096 - size, Size: size})
			}
			for _, r := range sizesOf(c)[8:] {
				wantsNoFit(t, c, 1, list, r, r > row.most)
				wantsNoFit(t, c, 2, append(cells(page(8), region(c), 1), list...), r, r > row.most)
				wantsNoFit(t, c, 2, list, r, false)
			}
			wantsNoFit(t, c, 1, list, 32, row.most == 0)
		}
	}
}

// P11.3: Stuck, with what is below Limit, at it, and denied.
func TestStuck(t *testing.T) {
	for order := range 9 {
		c := config(order, 3)
		for regions := range c.Limit + 1 {
			full := cells(c.Base, region(c), regions)
			for _, r := range sizesOf(c) {
				if got := oracle.Stuck(c, regions, full, r, false); got != (regions == c.Limit) {
					t.Errorf("Stuck(%v, %d, .., %d): %v", c, regions, r, got)
				}
				if !oracle.Stuck(c, regions, full, r, true) {
					t.Errorf("Stuck(%v, %d, .., %d, denied): false", c, regions, r)
				}
				if regions > 0 && oracle.Stuck(c, regions, full[1:], r, true) {
					t.Errorf("Stuck(%v, %d, .., %d, denied): true", c, regions, r)
				}
			}
		}
	}
}

// P11.3: the greatest number of pages, one of which has one cell left, or one of which is free.
func TestNoFitGreatest(t *testing.T) {
	for _, order := range []int{4, 8} {
		c := config(order, 64)
		list := cells(c.Base, 16, 1024*256)
		wantsNoFit(t, c, c.Limit, list, 16, true)
		wantsNoFit(t, c, c.Limit, list[1:], 16, false)
		wantsNoFit(t, c, c.Limit, list[:len(list)-1], 16, false)
		wantsNoFit(t, c, c.Limit, list[:len(list)-1], 32, true)
		wantsNoFit(t, c, c.Limit, list[:len(list)-256], 32, false)
		wantsNoFit(t, c, c.Limit, list[:len(list)-256], 4096, false)
		wantsNoFit(t, c, c.Limit, list[:len(list)-256], 8192, true)
	}
}

// P11.3: sound lists of every Order, of blocks of every size, in several orders, hold against DOC.md's words.
func TestNoFitAny(t *testing.T) {
	met := map[bool]int{}
	for seed := range 360 {
		row := numbers(seed)
		c := config(seed%9, 1+row.below(3))
		regions := row.below(c.Limit + 1)
		list := crowded(c, regions, &row)
		other := shuffled(list, &row)
		for _, r := range sizesOf(c) {
			want := noFitBy(c, regions, list, r)
			met[want]++
			wantsNoFit(t, c, regions, list, r, want)
			wantsNoFit(t, c, regions, other, r, want)
			wantsNoFit(t, c, regions, backward(list), r, want)
		}
	}
	if met[true] < 300 || met[false] < 300 {
		t.Errorf("NoFit: %v", met)
	}
}

// crowded tells some live blocks, often with few pages between them that meet none.
func crowded(c api.Config, regions int, row *numbers) []api.Block {
	list := drawn(c, regions, row)
	if row.below(3) == 0 {
		return list
	}
	room, full := spread(c, regions, list), row.below(40)
	for page := range len(room) / 256 {
		if !slices.ContainsFunc(room[256*page:256*page+256], taken) && row.below(40) >= full/8 {
			list = append(list, api.Block{P: c.Base + 4096*uint64(page), Size: 4096})
		}
	}
	return list
}
