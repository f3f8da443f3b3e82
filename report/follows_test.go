package report_test

import (
	"slices"
	"strings"
	"testing"

	"croft/api"
	"croft/image"
	"croft/oracle"
	"croft/report"
	"croft/walk"
)

// P20.7: the order of a list changes no answer: every order of one, handed to each call.
func TestOrderOfLists(t *testing.T) {
	other := blocks(1, 2, 3, 16, 3, 16)
	list := blocks(3, 16, 1, 2, 3, 32, 3, 16, 0, 0)
	sizes := report.Sizes(list)
	came, went := report.Diff(other, list)
	if sizes != "0 1 0\n2 1 2\n16 2 32\n32 1 32\n" || !slices.Equal(came, blocks(0, 0, 3, 32)) || len(went) != 0 {
		t.Fatalf("%q, %v, %v", sizes, came, went)
	}
	permuted(list, func(list []api.Block) {
		wantsSizes(t, list, sizes)
		wantsDiff(t, other, list, came, went)
		wantsDiff(t, list, other, went, came)
		wantsDiff(t, list, blocks(3, 16, 1, 2, 3, 32, 3, 16, 0, 0), nil, nil)
	})
}

// P20.7: the free pages of Pages are those of Free's blocks, and Waste of PageSize counts the pages that are not free; written out.
func TestAgreement(t *testing.T) {
	for _, row := range []struct {
		im    api.Image
		pages int
		waste int
	}{
		{laid(config(2, 2)), 0, 0},
		{laid(config(2, 2), free(2)), 4, 0},
		{laid(config(2, 2), taken(2), free(2)), 4, 500},
		{laid(config(2, 2), free(1), taken(0), free(0)), 3, 250},
		{laid(config(2, 2), free(1), cells(0, 1), cells(7, 0)), 2, 500},
		{laid(config(2, 2), cells(3, 1), allBut(5), taken(1)), 0, 1000},
		{hand(), 6, 625},
	} {
		wantsSound(t, row.im)
		if got := strings.Count(report.Pages(row.im), "."); got != row.pages {
			t.Errorf("%d free pages in %q, not %d", got, report.Pages(row.im), row.pages)
		}
		wantsWaste(t, row.im, 4096, row.waste)
		wantsAgreement(t, row.im)
	}
}

// What follows: Waste of r is 1000 just where nothing fits, as the oracle tells by the live blocks alone: it is rounded down, so that one block that fits is seen.
func TestWasteAndNoFit(t *testing.T) {
	for seed := range 200 {
		row := numbers(seed)
		c := config(seed%4, 2)
		im := someImage(c, 1+row.below(c.Limit), &row)
		for _, r := range sizesOf(c) {
			none := oracle.NoFit(c, im.Regions, walk.Blocks(im), r)
			if got := report.Waste(im, r); (got == 1000) != none {
				t.Errorf("Waste of %d: %d; nothing fits: %v", r, got, none)
			}
		}
	}
}

// What follows: what is told hangs on Config, regions and live blocks alone: the image of these that image.Lay makes is told alike.
func TestLaidAgain(t *testing.T) {
	for seed := range 120 {
		row := numbers(seed)
		c := config(seed%9, 3)
		im := someImage(c, row.below(c.Limit+1), &row)
		again, e := image.Lay(c, im.Regions, walk.Blocks(im), nil)
		if e != api.OK {
			t.Fatal(e)
		}
		if ask(again) != ask(im) {
			t.Errorf("seed %d: %v, not %v", seed, ask(again), ask(im))
		}
	}
}

// What follows: Stats and the reports tell the same of a heap.
func TestStatsAgree(t *testing.T) {
	for order := range 9 {
		row := numbers(order)
		h := newHeap(t, config(order, 4))
		for range 100 {
			anyCall(h, &row)
			s, text := h.Stats(), report.Pages(h.Image())
			if strings.Count(text, ".") != s.FreePages {
				t.Errorf("%d free pages, but %q", s.FreePages, text)
			}
			lines := uint64(strings.Count(text, "\n"))
			if lines*regionSize(h.Config()) != s.H || 4096*(uint64(len(text))-lines) != s.H {
				t.Errorf("%d bytes, but %q", s.H, text)
			}
		}
	}
}
