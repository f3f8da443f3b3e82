package report_test

import (
	"strings"
	"testing"

	"croft/api"
	"croft/report"
)

// P20.3, P20.4: no region: no line; a 0 for each order.
func TestNoRegion(t *testing.T) {
	for order := range 9 {
		im := laid(config(order, 3))
		wantsImage(t, im)
		wantsPages(t, im, "")
		wantsFree(t, im, make([]int, order+1)...)
		h := newHeap(t, config(order, 3))
		wantsPages(t, h.Image(), "")
		wantsFree(t, h.Image(), make([]int, order+1)...)
	}
}

// P20.3, P20.4: all pages free, all of one live block, of every order; in one region, and in as many as may be.
func TestWholeRegions(t *testing.T) {
	for order := range 9 {
		c := config(order, 64)
		for _, regions := range []int{1, 2, c.Limit} {
			var all, none []part
			for range regions {
				all, none = append(all, taken(order)), append(none, free(order))
			}
			want := make([]int, order+1)
			wantsImage(t, laid(c, all...))
			wantsFree(t, laid(c, all...), want...)
			digit := string(rune('0' + order))
			wantsPages(t, laid(c, all...), strings.Repeat(digit+strings.Repeat("=", 1<<order-1)+"\n", regions))
			want[order] = regions
			wantsImage(t, laid(c, none...))
			wantsFree(t, laid(c, none...), want...)
			wantsPages(t, laid(c, none...), strings.Repeat(strings.Repeat(".", 1<<order)+"\n", regions))
		}
	}
}

// halving tells parts for a region but its last page: a block of each order below the region's, the greatest first.
func halving(order int, make func(order int) part) []part {
	var list []part
	for k := order - 1; k >= 0; k-- {
		list = append(list, make(k))
	}
	return list
}

// P20.3, P20.4: live and free blocks of every order side by side.
func TestBlocksOfEveryOrder(t *testing.T) {
	for order := range 9 {
		c := config(order, 2)
		im := laid(c, append(halving(order, taken), free(0))...)
		wantsImage(t, im)
		want := make([]int, order+1)
		want[0] = 1
		wantsFree(t, im, want...)
		im = laid(c, append(halving(order, free), taken(0))...)
		wantsImage(t, im)
		for k := range order {
			want[k] = 1
		}
		if order == 0 {
			want[0] = 0
		}
		wantsFree(t, im, want...)
	}
	wantsPages(t, laid(config(3, 1), append(halving(3, taken), free(0))...), "2===1=0.\n")
	wantsPages(t, laid(config(3, 1), append(halving(3, free), taken(0))...), ".......0\n")
	wantsPages(t, laid(config(2, 3), free(1), taken(1), taken(0), taken(0), free(1), taken(2)), "..1=\n00..\n2===\n")
}

// P20.3: slab pages of each class with one live cell, all but one, all of them, whichever cell it is.
func TestSlabPages(t *testing.T) {
	for class := range 8 {
		little, great := string(rune('a'+class)), string(rune('A'+class))
		count := 256 >> class
		for cell := range count {
			im := laid(config(1, 2), cells(class, cell), allBut(class, cell), allBut(class), taken(0))
			wantsSound(t, im)
			wantsPages(t, im, little+little+"\n"+great+"0\n")
			wantsFree(t, im, 0, 0)
			if cell%37 == 0 || cell == count-1 {
				wantsImage(t, im)
			}
		}
	}
	wantsPages(t, laid(config(3, 2), allBut(0), allBut(1), allBut(2), allBut(3), allBut(4), allBut(5), allBut(6), allBut(7)), "ABCDEFGH\n")
	wantsPages(t, laid(config(3, 2), cells(7, 1), cells(6, 1), cells(5, 1), cells(4, 1), cells(3, 1), cells(2, 1), cells(1, 1), cells(0, 1)), "hgfedcba\n")
}

// P20.3, P20.4: some of everything, written out; the letters stand by the pages, whatever the order of the lists.
func TestHand(t *testing.T) {
	im := hand()
	wantsImage(t, im)
	wantsPages(t, im, "ae.0..Ha\n2===...e\n")
	wantsFree(t, im, 2, 2, 0, 0)
	row := numbers(3)
	for range 20 {
		relay(im, row.below)
		wantsImage(t, im)
		wantsPages(t, im, "ae.0..Ha\n2===...e\n")
	}
}

// P20.3, P20.4, P20.5, P20.7: images that no row of calls need have made, of every order, held against plain counting.
func TestAnyImages(t *testing.T) {
	letters := ""
	for seed := range 360 {
		row := numbers(seed)
		c := config(seed%9, 1+row.below(4))
		im := someImage(c, row.below(c.Limit+1), &row)
		wantsImage(t, im)
		letters += report.Pages(im)
	}
	for _, letter := range ".=012345678abcdefghABCDEFGH\n" {
		if !strings.ContainsRune(letters, letter) {
			t.Errorf("%q was not met", letter)
		}
	}
}

// P20.3, P20.4, P20.5, P20.7: images of heaps of many Configs, behind many calls.
func TestImagesOfHeaps(t *testing.T) {
	for order := range 9 {
		for seed := range 4 {
			row := numbers(seed)
			c := config(order, []int{1, 2, 5, 64}[seed])
			if seed == 2 {
				c.Base = regionSize(c)
			}
			if seed == 3 {
				c.Base = 1<<63 - uint64(c.Limit)*regionSize(c)
			}
			h := newHeap(t, c)
			wantsImage(t, h.Image())
			for range 60 >> (order / 4) {
				for range 1 + row.below(4) {
					anyCall(h, &row)
				}
				wantsImage(t, h.Image())
			}
			for _, b := range h.Live() {
				h.Free(b.P)
			}
			wantsImage(t, h.Image())
			if strings.Trim(report.Pages(h.Image()), ".\n") != "" {
				t.Error("a heap that was emptied has pages that are not free")
			}
		}
	}
}

// P20.3, P20.4: a heap that hands out page after page, and takes them back: the free blocks are cut and joined.
func TestCutAndJoined(t *testing.T) {
	h := newHeap(t, api.Config{Base: 65536, Limit: 1, Order: 2})
	for _, step := range []struct {
		pages string
		free  []int
	}{{"0...\n", []int{1, 1, 0}}, {"00..\n", []int{0, 1, 0}}, {"000.\n", []int{1, 0, 0}}, {"0000\n", []int{0, 0, 0}}} {
		h.Malloc(4096, false)
		wantsPages(t, h.Image(), step.pages)
		wantsFree(t, h.Image(), step.free...)
	}
	h.Free(69632)
	h.Free(77824)
	wantsPages(t, h.Image(), "0.0.\n")
	wantsFree(t, h.Image(), 2, 0, 0)
	h.Free(73728)
	wantsPages(t, h.Image(), "0...\n")
	wantsFree(t, h.Image(), 1, 1, 0)
	h.Free(65536)
	wantsPages(t, h.Image(), "....\n")
	wantsFree(t, h.Image(), 0, 0, 1)
	h.Trim()
	wantsPages(t, h.Image(), "")
	wantsFree(t, h.Image(), 0, 0, 0)
}
