package report_test

import (
	"fmt"
	"slices"
	"strings"
	"testing"

	"croft/api"
	"croft/report"
	"croft/walk"
)

// sizesBy tells what Sizes must, by plain counting: for each size the list is gone through once more.
func sizesBy(live []api.Block) string {
	var list []uint64
	for _, b := range live {
		list = append(list, b.Size)
	}
	slices.Sort(list)
	text := ""
	for _, size := range slices.Compact(list) {
		count, bytes := 0, uint64(0)
		for _, b := range live {
			if b.Size == size {
				count++
				bytes += size
			}
		}
		text += fmt.Sprintf("%d %d %d\n", size, count, bytes)
	}
	return text
}

// covered tells how many of size bytes from p on the blocks of a list have.
func covered(live []api.Block, p, size uint64) uint64 {
	sum := uint64(0)
	for _, b := range live {
		if from, to := max(p, b.P), min(p+size, b.P+b.Size); from < to {
			sum += to - from
		}
	}
	return sum
}

// on tells the blocks of a rising list that meet size bytes from p on.
func on(live []api.Block, p, size uint64) []api.Block {
	first, _ := slices.BinarySearchFunc(live, p, func(b api.Block, p uint64) int {
		if b.P+b.Size <= p {
			return -1
		}
		return 1
	})
	end := first
	for end < len(live) && live[end].P < p+size {
		end++
	}
	return live[first:end]
}

// letterBy tells a page's, by the live blocks that meet it.
func letterBy(live []api.Block, p uint64) string {
	met := on(live, p, 4096)
	if len(met) == 0 {
		return "."
	}
	power := slices.Index(sizesOf(config(8, 1)), met[0].Size)
	switch {
	case met[0].P < p:
		return "="
	case power >= 8:
		return "012345678"[power-8 : power-7]
	case covered(met, p, 4096) == 4096:
		return "ABCDEFGH"[power : power+1]
	}
	return "abcdefgh"[power : power+1]
}

// pagesBy tells what Pages must, by the live blocks.
func pagesBy(im api.Image) string {
	live, text := walk.Blocks(im), ""
	for region := range uint64(im.Regions) {
		p := im.Config.Base + region*regionSize(im.Config)
		for end := p + regionSize(im.Config); p < end; p += 4096 {
			text += letterBy(live, p)
		}
		text += "\n"
	}
	return text
}

// freeBy tells what Free must, by the live blocks: a stretch that meets none is a free block, if it is no half of a greater one.
func freeBy(im api.Image) []int {
	live, counts := walk.Blocks(im), make([]int, im.Config.Order+1)
	var look func(p uint64, order int)
	look = func(p uint64, order int) {
		if met := on(live, p, 4096<<order); len(met) == 0 {
			counts[order]++
		} else if order > 0 && met[0].Size < 4096<<order {
			look(p, order-1)
			look(p+2048<<order, order-1)
		}
	}
	for region := range im.Regions {
		look(im.Config.Base+uint64(region)*regionSize(im.Config), im.Config.Order)
	}
	return counts
}

// freeListed tells what Free must, by the lists that lie in the memory.
func freeListed(im api.Image) []int {
	counts := make([]int, len(im.Heads))
	for order, p := range im.Heads {
		for p != 0 {
			counts[order]++
			p = getWord(im, p)
		}
	}
	return counts
}

// thousandths tells how many of a thousand committed bytes are none of these.
func thousandths(im api.Image, bytes uint64) int {
	committed := uint64(im.Regions) * regionSize(im.Config)
	if committed == 0 {
		return 0
	}
	return int((committed - bytes) * 1000 / committed)
}

// wasteBy tells what Waste must, by the live blocks: each place of a block of size r is asked whether it can be had.
func wasteBy(im api.Image, r uint64) int {
	live, bytes := walk.Blocks(im), uint64(0)
	c := max(r, 4096)
	for p := im.Config.Base; p < im.Config.Base+uint64(len(im.Mem)); p += c {
		if met := on(live, p, c); len(met) == 0 {
			bytes += c
		} else if met[0].Size == r && r < 4096 {
			bytes += 4096 - covered(met, p, 4096)
		}
	}
	return thousandths(im, bytes)
}

// wasteHanded tells what Waste must, by a heap of the image that hands out such blocks, denied, till there is no place.
func wasteHanded(t *testing.T, im api.Image, r uint64) int {
	t.Helper()
	h, bytes := opened(t, im), uint64(0)
	for {
		_, e := h.Malloc(r, true)
		if e == api.ENOMEM {
			return thousandths(im, bytes)
		}
		if e != api.OK {
			t.Fatal(e)
		}
		bytes += r
	}
}

// wantsImage holds all that is told of a sound image against what plain counting tells.
func wantsImage(t *testing.T, im api.Image) {
	t.Helper()
	wantsSound(t, im)
	wantsPages(t, im, pagesBy(im))
	wantsFree(t, im, freeBy(im)...)
	wantsFree(t, im, freeListed(im)...)
	for _, r := range sizesOf(im.Config) {
		wantsWaste(t, im, r, wasteBy(im, r))
	}
	wantsAgreement(t, im)
}

// wantsHanded holds Waste against a heap of the image, for all sizes.
func wantsHanded(t *testing.T, im api.Image) {
	t.Helper()
	for _, r := range sizesOf(im.Config) {
		wantsWaste(t, im, r, wasteHanded(t, im, r))
	}
}

// wantsAgreement is P20.7 of an image.
func wantsAgreement(t *testing.T, im api.Image) {
	t.Helper()
	text, pages := report.Pages(im), 0
	for order, count := range report.Free(im) {
		for range order {
			count *= 2
		}
		pages += count
	}
	if strings.Count(text, ".") != pages {
		t.Errorf("%d free pages in %q, %d by Free", strings.Count(text, "."), text, pages)
	}
	all := len(text) - strings.Count(text, "\n")
	want := 0
	if all > 0 {
		want = 1000 * (all - pages) / all
	}
	wantsWaste(t, im, 4096, want)
}

// diffBy tells what Diff must, by plain counting: of now what is left when each block of old has taken one away.
func diffBy(old, now []api.Block) (came, went []api.Block) {
	came = slices.Clone(now)
	for _, b := range old {
		if i := slices.Index(came, b); i >= 0 {
			came = slices.Delete(came, i, i+1)
		} else {
			went = append(went, b)
		}
	}
	return inOrder(came), inOrder(went)
}

// inOrder puts a list in order, the least of those that are left ahead of the others.
func inOrder(list []api.Block) []api.Block {
	for i := range list {
		for j := range list[:i] {
			if one, other := list[i], list[j]; one.P < other.P || one.P == other.P && one.Size < other.Size {
				list[i], list[j] = other, one
			}
		}
	}
	return list
}
