package report_test

import (
	"testing"

	"croft/api"
)

// The chapter's table.
func TestExamples(t *testing.T) {
	h := newHeap(t, example())
	for _, size := range []uint64{0, 17, 4097} {
		if _, e := h.Malloc(size, false); e != api.OK {
			t.Fatal(e)
		}
	}
	im := h.Image()
	wantsSizes(t, h.Live(), "16 1 16\n32 1 32\n8192 1 8192\n")
	wantsPages(t, im, "ab\n1=\n")
	wantsFree(t, im, 0, 0)
	wantsWaste(t, im, 16, 750)
	wantsWaste(t, im, 4096, 1000)
	wantsWaste(t, im, 24, -1)
	wantsDiff(t, blocks(5, 6, 1, 2), blocks(1, 2, 1, 2), blocks(1, 2), blocks(5, 6))
	wantsDiff(t, blocks(1, 2, 5, 6), blocks(1, 2, 1, 2), blocks(1, 2), blocks(5, 6))
}

// DOC.md's seventh example of the whole, and chapter 21's of these calls: what is told of their heap.
func TestExamplesOfTheWhole(t *testing.T) {
	h := newHeap(t, example())
	h.Malloc(17, false)
	p, _ := h.Malloc(4097, false)
	wantsPages(t, h.Image(), "b.\n1=\n")
	wantsSizes(t, h.Live(), "32 1 32\n8192 1 8192\n")
	wantsFree(t, h.Image(), 1, 0)
	wantsWaste(t, h.Image(), 32, 501)
	h.Free(p)
	wantsPages(t, h.Image(), "b.\n..\n")
	wantsFree(t, h.Image(), 1, 1)
}
