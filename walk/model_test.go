package walk_test

import (
	"math/big"
	"slices"
	"testing"

	"croft/api"
	"croft/walk"
)

// kept is what a rule's function tells where the rule is kept; else it tells the place.
const kept = -1

// told is P9.1 by the chapter's words: the first rule that is broken, and the place.
func told(im api.Image) (rule, place int) {
	for i, rule := range []func(api.Image) int{config1, lengths2, ranges3, blocks4, cells5, halves6, pairs7, free8, cells9, partial10, full11} {
		if place := rule(im); place != kept {
			return i + 1, place
		}
	}
	return 0, 0
}

// config1 reckons without a type's end.
func config1(im api.Image) int {
	c := im.Config
	if c.Order < 0 || c.Order > 8 || c.Limit < 1 || c.Limit > 64 || c.Limit*regionPages(c) > 1024 {
		return 0
	}
	r := big.NewInt(int64(4096 * regionPages(c)))
	base := new(big.Int).SetUint64(c.Base)
	end := new(big.Int).Add(base, new(big.Int).Mul(r, big.NewInt(int64(c.Limit))))
	if base.Sign() == 0 || new(big.Int).Mod(base, r).Sign() != 0 || end.Cmp(new(big.Int).Lsh(big.NewInt(1), 63)) > 0 {
		return 0
	}
	return kept
}

func lengths2(im api.Image) int {
	if im.Regions < 0 || im.Regions > im.Config.Limit {
		return 0
	}
	pages := regionPages(im.Config) * im.Regions
	var words, are []int
	for k, n := 0, pages/2; k < im.Config.Order; k, n = k+1, n/2 {
		words = append(words, (n+63)/64)
	}
	for _, list := range im.Pairs {
		are = append(are, len(list))
	}
	switch {
	case len(im.Mem) != 4096*pages:
		return 1
	case len(im.Pages) != pages:
		return 2
	case !slices.Equal(words, are):
		return 3
	case len(im.Heads) != im.Config.Order+1:
		return 4
	case len(im.Partial) != 8:
		return 5
	}
	return kept
}

func ranges3(im api.Image) int {
	n := len(im.Pages)
	return slices.IndexFunc(im.Pages, func(p api.Page) bool {
		for _, field := range [][3]int{{0, p.Kind, 4}, {0, p.Order, im.Config.Order}, {0, p.Class, 7}, {0, p.Live, 256}, {-1, p.Next, n - 1}, {-1, p.Prev, n - 1}, {-1, p.First, 255}} {
			if !slices.IsSorted(field[:]) {
				return true
			}
		}
		return false
	})
}

func blocks4(im api.Image) int {
	var left []api.Page // the other pages of the block that was begun
	for number, page := range im.Pages {
		if len(left) > 0 {
			if page != left[0] {
				return number
			}
			left = left[1:]
			continue
		}
		if page.Kind == api.PageSlab {
			if page.Order != 0 {
				return number
			}
			continue
		}
		block := pagesOf(part{kind: page.Kind, order: page.Order})
		if page.Kind%2 == 1 || page != block[0] || number%len(block) != 0 {
			return number
		}
		left = block[1:]
	}
	return kept
}

func cells5(im api.Image) int {
	return slices.IndexFunc(im.Pages, func(page api.Page) bool {
		live := 0
		for cell := range 256 {
			if liveCell(page, cell) {
				live++
			}
			if page.Kind == api.PageSlab && liveCell(page, cell) && cell*(16<<page.Class) >= 4096 {
				return true
			}
		}
		return page.Kind == api.PageSlab && (live == 0 || live != page.Live)
	})
}

// freeFrom tells the numbers of the pages that begin a free block of an order.
func freeFrom(im api.Image, order int) []int {
	var list []int
	for number, page := range im.Pages {
		if page.Kind == api.PageFree && page.Order == order {
			list = append(list, number)
		}
	}
	return list
}

func halves6(im api.Image) int {
	var places []int
	for k, size := 0, 1; k < im.Config.Order; k, size = k+1, size+size {
		list := freeFrom(im, k)
		for _, number := range list {
			if number/size%2 == 0 && slices.Contains(list, number+size) {
				places = append(places, number)
			}
		}
	}
	if len(places) == 0 {
		return kept
	}
	return slices.Min(places)
}

func pairs7(im api.Image) int {
	for k, words := range im.Pairs {
		want := pairWords(im.Pages, k)
		for i := range 64 * len(words) {
			if words[i/64]>>(i%64)%2 != want[i/64]>>(i%64)%2 {
				return min(i*(2<<k), len(im.Pages))
			}
		}
	}
	return kept
}

// through follows a list from first to last by what next tells, a false being what breaks off; it tells whether each of all was there just once.
func through[T comparable](all []T, first, last T, next func(from, back T) (T, bool)) bool {
	seen := map[T]int{}
	for p, back := first, last; p != last; {
		seen[p]++
		if !slices.Contains(all, p) || seen[p] > 1 {
			return false
		}
		on, is := next(p, back)
		if !is {
			return false
		}
		p, back = on, p
	}
	return len(seen) == len(all)
}

func free8(im api.Image) int {
	for k, head := range im.Heads {
		var all []uint64
		for _, number := range freeFrom(im, k) {
			all = append(all, at(im, number))
		}
		if !through(all, head, 0, func(p, back uint64) (uint64, bool) { return getWord(im, p), getWord(im, p+8) == back }) {
			return k
		}
	}
	return kept
}

func cells9(im api.Image) int {
	for number, page := range im.Pages {
		if page.Kind != api.PageSlab {
			continue
		}
		var all []int
		is := map[uint64]int{0: -1}
		for cell := range 256 >> page.Class {
			is[cellAt(im, number, cell)] = cell
			if !liveCell(page, cell) {
				all = append(all, cell)
			}
		}
		if !through(all, page.First, -1, func(cell, _ int) (int, bool) {
			next, there := is[getWord(im, cellAt(im, number, cell))]
			return next, there
		}) {
			return number
		}
	}
	return kept
}

func partial10(im api.Image) int {
	for k, head := range im.Partial {
		var all []int
		for number, page := range im.Pages {
			if page.Kind == api.PageSlab && page.Class == k && page.Live != 256>>k {
				all = append(all, number)
			}
		}
		if !through(all, head, -1, func(p, back int) (int, bool) { return im.Pages[p].Next, im.Pages[p].Prev == back }) {
			return k
		}
	}
	return kept
}

func full11(im api.Image) int {
	return slices.IndexFunc(im.Pages, func(page api.Page) bool {
		return page.Kind == api.PageSlab && page.Live == 256>>page.Class && (page.Next != -1 || page.Prev != -1)
	})
}

// liveBlocks is P9.2 of an image that is sound.
func liveBlocks(im api.Image) []api.Block {
	var list []api.Block
	for number, page := range im.Pages {
		if page.Kind == api.PageBig {
			list = append(list, api.Block{P: at(im, number), Size: 4096 * uint64(len(pagesOf(part{kind: page.Kind, order: page.Order})))})
		}
		for cell := range 256 >> page.Class {
			if page.Kind == api.PageSlab && liveCell(page, cell) {
				list = append(list, api.Block{P: cellAt(im, number, cell), Size: 4096 / uint64(256>>page.Class)})
			}
		}
	}
	return list
}

// wants asks the two calls of an image, twice, and that they change nothing of it.
func wants(t *testing.T, what string, im api.Image, rule, place int) {
	t.Helper()
	room, stays := roomy(im)
	var blocks []api.Block
	if rule == 0 {
		blocks = liveBlocks(im)
	}
	for range 2 {
		if r, p := walk.Check(room); r != rule || p != place {
			t.Fatalf("%s: Check: %d, %d, not %d, %d", what, r, p, rule, place)
		}
		if list := walk.Blocks(room); !slices.Equal(list, blocks) {
			t.Fatalf("%s: Blocks: %v, not %v", what, list, blocks)
		}
	}
	if !stays() {
		t.Fatalf("%s: what was handed in has changed", what)
	}
}

// wantsTold asks the same by the model's answer, which it tells.
func wantsTold(t *testing.T, what string, im api.Image) (rule, place int) {
	t.Helper()
	rule, place = told(im)
	wants(t, what, im, rule, place)
	return rule, place
}

// roomy tells an image like im, each list of it in one with spare room behind, and a function that says whether all of these are as they were made.
func roomy(im api.Image) (api.Image, func() bool) {
	mem := append(slices.Clone(im.Mem), 1, 2, 3, 4, 5, 6, 7, 8)
	pages := append(slices.Clone(im.Pages), api.Page{Kind: 77}, api.Page{Kind: 78})
	pairs := append(slices.Clone(im.Pairs), []uint64{70}, []uint64{71})
	heads := append(slices.Clone(im.Heads), 72, 73)
	partial := append(slices.Clone(im.Partial), 74, 75)
	for k := range im.Pairs {
		pairs[k] = append(slices.Clone(im.Pairs[k]), 76, 77)[:len(im.Pairs[k])]
	}
	whole := api.Image{Mem: mem, Pages: pages, Heads: heads, Partial: partial}
	for _, words := range pairs {
		whole.Pairs = append(whole.Pairs, words[:cap(words)])
	}
	ahead := copied(whole)
	room := im
	room.Mem, room.Pages, room.Pairs = mem[:len(im.Mem)], pages[:len(im.Pages)], pairs[:len(im.Pairs)]
	room.Heads, room.Partial = heads[:len(im.Heads)], partial[:len(im.Partial)]
	return room, func() bool {
		for k, words := range pairs {
			if cap(words) > 0 && &words[:1][0] != &whole.Pairs[k][0] {
				return false
			}
		}
		return same(whole, ahead)
	}
}
