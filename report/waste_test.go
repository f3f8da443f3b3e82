package report_test

import (
	"math"
	"slices"
	"testing"

	"croft/api"
)

// wrongSizes tells numbers that no block of c can have.
func wrongSizes(c api.Config) []uint64 {
	list := []uint64{0, 1, 2, 4, 8, 3, 15, 17, 24, 48, 4095, 4097, 12288, math.MaxUint64, math.MaxUint64 - 15, 1<<63 + 16, 1 << 63, 1 << 32, 1<<32 + 16}
	for n := range 64 {
		power := uint64(1) << n
		list = append(list, power-1, power, power+1, power+power/2, -power)
	}
	return slices.DeleteFunc(list, func(r uint64) bool { return slices.Contains(sizesOf(c), r) })
}

// P20.5: -1 of all that is no power of 2 from 16 to R, whatever the image; 2 R and 8 among them.
func TestWasteOfWrongSizes(t *testing.T) {
	for order := range 9 {
		c := config(order, 2)
		row := numbers(order)
		for _, im := range []api.Image{laid(c), laid(c, free(order)), laid(c, taken(order), free(order)), someImage(c, 2, &row)} {
			wantsSound(t, im)
			for _, r := range append(wrongSizes(c), 2*regionSize(c), regionSize(c)-1, regionSize(c)+1) {
				wantsWaste(t, im, r, -1)
			}
		}
	}
}

// P20.5: 0 of each size of a block, where H is 0.
func TestWasteOfNoRegion(t *testing.T) {
	for order := range 9 {
		c := config(order, 64)
		for _, r := range sizesOf(c) {
			wantsWaste(t, laid(c), r, 0)
			wantsWaste(t, newHeap(t, c).Image(), r, 0)
		}
		wantsHanded(t, laid(c))
	}
}

// P20.5: nothing is lost where all pages are free; all is, where none is.
func TestWasteOfWholeRegions(t *testing.T) {
	for order := range 9 {
		c := config(order, 64)
		for _, regions := range []int{1, c.Limit} {
			none, all := laid(c, slices.Repeat([]part{free(order)}, regions)...), laid(c, slices.Repeat([]part{taken(order)}, regions)...)
			for _, r := range sizesOf(c) {
				wantsWaste(t, none, r, 0)
				wantsWaste(t, all, r, 1000)
			}
			wantsHanded(t, all)
			if regions<<order <= 64 {
				wantsHanded(t, none)
			}
		}
		pages := slices.Repeat([]part{taken(0)}, 1<<order)
		pages[len(pages)/2] = free(0)
		wantsImage(t, laid(c, pages...))
		wantsHanded(t, laid(c, pages...))
	}
}

// P20.5: slab pages of each class with one live cell, all but one, all of them: the other cells count for that size alone, however many there are.
func TestWasteOfSlabPages(t *testing.T) {
	for class := range 8 {
		size, count := uint64(16)<<class, 256>>class
		for _, cell := range []int{0, count / 2, count - 1} {
			one := laid(config(0, 2), cells(class, cell))
			last := laid(config(0, 2), allBut(class, cell))
			both := laid(config(1, 2), cells(class, cell), allBut(class, cell), cells(class, cell), taken(0))
			for _, im := range []api.Image{one, last, both, laid(config(0, 2), allBut(class))} {
				wantsImage(t, im)
				wantsHanded(t, im)
			}
			for _, r := range sizesOf(one.Config) {
				if r != size {
					wantsWaste(t, one, r, 1000)
					wantsWaste(t, last, r, 1000)
				}
			}
			wantsWaste(t, one, size, 1000/count)
			wantsWaste(t, last, size, 1000*(count-1)/count)
			wantsWaste(t, laid(config(0, 2), allBut(class)), size, 1000)
		}
	}
}

// P20.5: a free block counts for all sizes that are not above its own, and for these whole; two that are no halves of one don't count together.
func TestWasteOfFreeBlocks(t *testing.T) {
	im := laid(config(2, 2), taken(0), free(0), free(1), free(0), taken(0), taken(0), free(0))
	for r, want := range map[uint64]int{16: 375, 2048: 375, 4096: 375, 8192: 750, 16384: 1000, 32768: -1} {
		wantsWaste(t, im, r, want)
	}
	im = laid(config(1, 2), taken(0), free(0), free(0), taken(0))
	for r, want := range map[uint64]int{16: 500, 4096: 500, 8192: 1000} {
		wantsWaste(t, im, r, want)
	}
	wantsHanded(t, im)
}

// P20.5: it is rounded down: at a share that is no whole thousandth, and close below one.
func TestWasteIsRoundedDown(t *testing.T) {
	pages := make([]part, 0, 64)
	for range 63 {
		pages = append(pages, free(0))
	}
	im := laid(config(0, 64), append(pages, taken(0))...)
	wantsWaste(t, im, 4096, 15) // 15.6
	im = laid(config(0, 64), append(pages, cells(0, 9))...)
	wantsWaste(t, im, 16, 0) // 16 of 262144 bytes: 0.06
	wantsWaste(t, im, 32, 15)
	im = laid(config(0, 64), append(slices.Repeat([]part{taken(0)}, 63), cells(0, 9))...)
	wantsWaste(t, im, 16, 984) // 984.4
	im = laid(config(0, 64), append(slices.Repeat([]part{taken(0)}, 63), allBut(0, 9))...)
	wantsWaste(t, im, 16, 999) // 999.94
	im = laid(config(0, 64), taken(0), free(0), taken(0))
	wantsWaste(t, im, 4096, 666)
}

// P20.5: some of everything, against a heap that hands out such blocks till there is no place.
func TestWasteOfHand(t *testing.T) {
	im := hand()
	wantsHanded(t, im)
	for r, want := range map[uint64]int{16: 501, 32: 625, 256: 511, 2048: 625, 4096: 625, 8192: 750, 16384: 1000, 32768: 1000, 65536: -1, 8: -1} {
		wantsWaste(t, im, r, want)
	}
}

// P20.5: images that no row of calls need have made, of every order, against such heaps.
func TestWasteAgainstHeaps(t *testing.T) {
	for seed := range 90 {
		row := numbers(seed)
		c := config(seed%9, 1+row.below(max(1, 4-seed%9)))
		wantsHanded(t, someImage(c, row.below(c.Limit+1), &row))
	}
}

// P20.5: the same of the images of heaps, behind many calls.
func TestWasteOfHeaps(t *testing.T) {
	for order := range 7 {
		for seed := range 3 {
			row := numbers(seed)
			h := newHeap(t, config(order, max(1, []int{1, 2, 5}[seed]>>(order/3))))
			for range 8 {
				for range 10 {
					anyCall(h, &row)
				}
				wantsHanded(t, h.Image())
			}
		}
	}
}

// P20.5: the greatest heap that may be, a page of which is live.
func TestWasteOfTheGreatest(t *testing.T) {
	c := config(8, 64)
	if c.Limit != 4 {
		t.Fatal(c)
	}
	parts := []part{free(8), free(8), free(8)}
	im := laid(c, append(parts, append(halving(8, free), taken(0))...)...)
	wantsImage(t, im)
	for _, r := range []uint64{16, 4096, 8192, 1 << 19, 1 << 20} {
		wantsWaste(t, im, r, wasteHanded(t, im, r))
	}
	wantsWaste(t, im, 16, 0) // 0.98
	wantsWaste(t, im, 1<<20, 250)
}
