package image_test

import (
	"bytes"
	"math"
	"slices"
	"testing"

	"croft/api"
	"croft/walk"
)

// laysAs asks Lay for the image of rising blocks that the model tells, and that it is sound; and the same in other orders.
func laysAs(t *testing.T, c api.Config, regions int, blocks []api.Block, contents [][]byte, row *numbers) api.Image {
	t.Helper()
	want := laid(c, regions, blocks, contents)
	wantsSound(t, want, blocks)
	wantsSame(t, "rising", lays(t, c, regions, blocks, contents), want)
	all := slices.Concat(contents, make([][]byte, len(blocks)-len(contents)))
	list, held := backward(blocks, all)
	wantsSame(t, "falling", lays(t, c, regions, list, held), want)
	for range 2 {
		list, held = shuffled(blocks, all, row)
		wantsSame(t, "in another order", lays(t, c, regions, list, held), want)
	}
	return want
}

// P10.3, P10.6: live blocks of every size, in regions of every Order, with contents and without, in several orders.
func TestLay(t *testing.T) {
	for seed := range 180 {
		row := numbers(seed)
		c := config(seed%9, 1+row.below(5))
		regions := row.below(c.Limit + 1)
		blocks := drawn(c, regions, &row)
		laysAs(t, c, regions, blocks, nil, &row)
		contents := drawnContents(blocks, &row)
		laysAs(t, c, regions, blocks, contents, &row)
		laysAs(t, c, regions, blocks, contents[:row.below(len(contents)+1)], &row)
	}
}

// P10.3: no region, and all of Limit; the greatest number of pages, at the highest addresses.
func TestLayOfAllRegions(t *testing.T) {
	for order := range 9 {
		row := numbers(order)
		limit := min(64, 1024>>order)
		c := api.Config{Base: 1<<63 - uint64(limit)*4096<<order, Limit: limit, Order: order}
		none := laysAs(t, c, 0, nil, nil, &row)
		if none.Regions != 0 || len(none.Mem)+len(none.Pages) != 0 || len(none.Pairs) != order || len(none.Heads) != order+1 {
			t.Errorf("no region: %v", none)
		}
		laysAs(t, c, limit, nil, nil, &row)
		blocks := drawn(c, limit, &row)
		laysAs(t, c, limit, blocks, drawnContents(blocks, &row), &row)
		var whole []api.Block
		for i := range uint64(limit) {
			whole = append(whole, api.Block{P: c.Base + i*4096<<order, Size: 4096 << order})
		}
		full := laysAs(t, c, limit, whole, nil, &row)
		if !slices.Equal(full.Heads, make([]uint64, order+1)) {
			t.Errorf("all is live: %v", full.Heads)
		}
	}
}

// P10.3: no region, written out.
func TestLayOfNoRegion(t *testing.T) {
	wantsSame(t, "Order 0", lays(t, config(0, 1), 0, nil, nil), api.Image{Config: config(0, 1), Heads: []uint64{0}, Partial: noPartial()})
	wantsSame(t, "Order 3", lays(t, config(3, 9), 0, []api.Block{}, [][]byte{}), api.Image{Config: config(3, 9), Pairs: make([][]uint64, 3), Heads: make([]uint64, 4), Partial: noPartial()})
}

// P10.3: of every order one live block, and one page: the free blocks about it are the greatest that there are.
func TestGreatestFree(t *testing.T) {
	for order := range 9 {
		row := numbers(order)
		c := config(order, 2)
		for k := range order + 1 {
			for _, first := range []uint64{0, 1<<order - 1<<k, 1 << order, 2<<order - 1<<k} {
				block := api.Block{P: c.Base + 4096*first, Size: 4096 << k}
				im := laysAs(t, c, 2, []api.Block{block}, nil, &row)
				for i, head := range im.Heads[:order] {
					if (head != 0) != (i >= k) {
						t.Errorf("Order %d, a live block of order %d: Heads %v", order, k, im.Heads)
					}
				}
			}
		}
	}
}

// P10.3: neighbours that are free, but no halves of one greater block, stay apart; those that are become one, up to Order.
func TestFreeHalves(t *testing.T) {
	c := config(3, 2)
	at := func(number int) uint64 { return c.Base + 4096*uint64(number) }
	im := lays(t, c, 2, []api.Block{{P: at(0), Size: 4096}, {P: at(3), Size: 4096}}, nil)
	if im.Pages[1] != page(api.PageFree, 0) || im.Pages[2] != page(api.PageFree, 0) {
		t.Errorf("no halves: %v", im.Pages[1:3])
	}
	if im.Pages[4] != page(api.PageFree, 2) || im.Pages[8] != page(api.PageFree, 3) || im.Pages[15] != page(api.PageFreeRest, 3) {
		t.Errorf("greater ones: %v", im.Pages)
	}
	if !slices.Equal(im.Heads, []uint64{at(1), 0, at(4), at(8)}) {
		t.Errorf("Heads: %v", im.Heads)
	}
	if !slices.EqualFunc(im.Pairs, [][]uint64{{3}, {0}, {1}}, slices.Equal[[]uint64]) {
		t.Errorf("Pairs: %v", im.Pairs)
	}
	two := lays(t, c, 2, nil, nil)
	if two.Pages[0] != page(api.PageFree, 3) || two.Pages[8] != page(api.PageFree, 3) {
		t.Errorf("no block is above Order: %v", two.Pages)
	}
	if !bytes.Equal(two.Mem, wordsOf(65536, map[int]uint64{0: at(8), 32768 + 8: at(0)})) {
		t.Error("the links of two regions")
	}
}

// P10.3: of each class a page full of blocks, one with a single one (at every place), one with a single free cell; and others of the class on the same list.
func TestSlabPages(t *testing.T) {
	c := config(2, 2)
	for class := range 8 {
		row := numbers(class)
		size := uint64(16) << class
		var full []api.Block
		for cell := range uint64(256 >> class) {
			full = append(full, api.Block{P: c.Base + 8192 + cell*size, Size: size})
		}
		im := laysAs(t, c, 1, full, nil, &row)
		if is := im.Pages[2]; is.Live != len(full) || is.First != -1 || is.Next != -1 || is.Prev != -1 || im.Partial[class] != -1 {
			t.Errorf("a full page: %v, %v", is, im.Partial)
		}
		for i := range full {
			one := laysAs(t, c, 1, full[i:i+1], [][]byte{{1, 2, 3}}, &row)
			if is := one.Pages[2]; is.Live != 1 || one.Partial[class] != 2 {
				t.Errorf("a page with one: %v", is)
			}
			but := laysAs(t, c, 1, slices.Concat(full[:i], full[i+1:]), nil, &row)
			if is := but.Pages[2]; is.First != i || but.Partial[class] != 2 {
				t.Errorf("a page with all but one: %v", is)
			}
		}
	}
}

// P10.3: the pages of a class that have free cells, rising, written out; full ones among them are left out.
func TestPartialLists(t *testing.T) {
	c := config(0, 8)
	at := func(number, cell int) api.Block {
		return api.Block{P: c.Base + uint64(4096*number+2048*cell), Size: 2048}
	}
	im := lays(t, c, 6, []api.Block{at(5, 1), at(3, 0), at(3, 1), at(2, 1), at(0, 0)}, nil)
	slab := func(next, prev, first, live int, bits uint64) api.Page {
		return api.Page{Kind: api.PageSlab, Class: 7, Live: live, Next: next, Prev: prev, First: first, Bits: [4]uint64{bits}}
	}
	want := []api.Page{slab(2, -1, 1, 1, 1), page(api.PageFree, 0), slab(5, 0, 0, 1, 2), slab(-1, -1, -1, 2, 3), page(api.PageFree, 0), slab(-1, 2, 0, 1, 2)}
	if !slices.Equal(im.Pages, want) || !slices.Equal(im.Partial, []int{-1, -1, -1, -1, -1, -1, -1, 0}) {
		t.Errorf("%v, %v", im.Pages, im.Partial)
	}
	free := map[int]uint64{4096: c.Base + 4*4096, 4*4096 + 8: c.Base + 4096}
	if !bytes.Equal(im.Mem, wordsOf(6*4096, free)) || !slices.Equal(im.Heads, []uint64{c.Base + 4096}) || len(im.Pairs) != 0 {
		t.Errorf("%v, %v", im.Heads, im.Pairs)
	}
}

// P10.3: what blocks hold: of every size, contents that are none, empty, one byte, all but one, all; zeros behind them, and a byte more is refused.
func TestContents(t *testing.T) {
	for order := range 9 {
		c := config(order, 1)
		for size := 16; size <= 4096<<order; size *= 2 {
			row := numbers(size)
			blocks := []api.Block{{P: c.Base + uint64(4096<<order-size), Size: uint64(size)}}
			for _, n := range []int{0, 1, size / 2, size - 1, size} {
				content := row.bytes(n)
				im := laysAs(t, c, 1, blocks, [][]byte{content}, &row)
				if !bytes.Equal(im.Mem[len(im.Mem)-size:], append(content, make([]byte, size-n)...)) {
					t.Fatalf("%d bytes in %d", n, size)
				}
			}
			laysAs(t, c, 1, blocks, [][]byte{nil}, &row)
			refusesLay(t, "a byte too long", c, 1, blocks, [][]byte{make([]byte, size+1)})
			refusesLay(t, "far too long", c, 1, blocks, [][]byte{make([]byte, 2*size)})
		}
	}
}

// P10.3: contents i go into block i, whatever the order; fewer than blocks will do, more won't.
func TestContentsOfMany(t *testing.T) {
	c := config(1, 2)
	blocks := []api.Block{{P: c.Base + 8192, Size: 8192}, {P: c.Base + 32, Size: 32}, {P: c.Base + 4096, Size: 4096}, {P: c.Base, Size: 32}}
	contents := [][]byte{bytes.Repeat([]byte{1}, 8192), bytes.Repeat([]byte{2}, 32), {3}, {4}}
	starts := []int{8192, 32, 4096, 0}
	for n := range contents {
		im := lays(t, c, 2, blocks, contents[:n])
		for i, start := range starts {
			want := byte(i + 1)
			if i >= n {
				want = 0
			}
			if im.Mem[start] != want {
				t.Errorf("%d contents: the block %d holds %d", n, i, im.Mem[start])
			}
		}
	}
	refusesLay(t, "one more than blocks", c, 2, blocks, append(contents, nil))
	refusesLay(t, "more than blocks", c, 2, blocks[:1], contents)
	for i, b := range blocks {
		wrong := slices.Clone(contents)
		wrong[i] = make([]byte, b.Size+1)
		refusesLay(t, "one is a byte too long", c, 2, blocks, wrong)
	}
}

// P10.3: numbers of regions that may not be, and Configs.
func TestLayOfWrongRegions(t *testing.T) {
	for order := range 9 {
		c := config(order, 64)
		for _, regions := range []int{-1, c.Limit + 1, 65, 1 << 20, math.MinInt, math.MaxInt} {
			refusesLay(t, "regions", c, regions, nil, nil)
		}
		lays(t, c, c.Limit, nil, nil)
	}
	for _, c := range noConfigs() {
		refusesLay(t, "a Config that may not be", c, 0, nil, nil)
		refusesLay(t, "a Config that may not be", c, 1, []api.Block{{P: 65536, Size: 16}}, [][]byte{{1}})
	}
	for _, c := range someConfigs() {
		lays(t, c, 0, nil, nil)
		lays(t, c, 1, []api.Block{{P: c.Base, Size: 16}}, [][]byte{{1}})
	}
}

// someConfigs tells some at the edges of what may be.
func someConfigs() []api.Config {
	var list []api.Config
	for order := range 9 {
		r, limit := uint64(4096)<<order, min(64, 1024>>order)
		for _, base := range []uint64{r, 3 * r, 1<<63 - uint64(limit)*r} {
			list = append(list, api.Config{Base: base, Limit: limit, Order: order}, api.Config{Base: base, Limit: 1, Order: order})
		}
		list = append(list, api.Config{Base: 1<<63 - r, Limit: 1, Order: order})
	}
	return list
}

// noConfigs tells some past these edges.
func noConfigs() []api.Config {
	list := []api.Config{{}, {Base: 1, Limit: 2, Order: 1}, {Base: math.MaxUint64, Limit: math.MaxInt, Order: math.MaxInt}}
	for order := range 9 {
		r, limit := uint64(4096)<<order, min(64, 1024>>order)
		for _, base := range wrongBases(order, limit) {
			list = append(list, api.Config{Base: base, Limit: limit, Order: order})
		}
		for _, limit := range []int{limit + 1, 0, -1, math.MinInt, math.MaxInt, 1 << 56} {
			list = append(list, api.Config{Base: r, Limit: limit, Order: order})
		}
	}
	for _, order := range []int{-1, 9, 52, 63, 64, 256, math.MinInt, math.MaxInt} {
		list = append(list, api.Config{Base: 1 << 62, Limit: 1, Order: order})
	}
	return list
}

// wrongBases tells each kind of Base that may not be: 0, no multiple of R, too high.
func wrongBases(order, limit int) []uint64 {
	r := uint64(4096) << order
	return []uint64{0, 1, r - 1, r + 1, r / 2, r + r/2, r + 16, 1<<63 - uint64(limit)*r + r, 1<<63 - uint64(limit)*r + 1, 1 << 63, 1<<63 + r, -r, math.MaxUint64}
}

// P10.3: what is no block of committed bytes.
func TestLayOfNoBlocks(t *testing.T) {
	for order := range 9 {
		c := config(order, 3)
		r := uint64(4096) << order
		end := c.Base + 2*r
		var wrong []api.Block
		for _, size := range []uint64{0, 1, 2, 4, 8, 15, 17, 24, 48, 100, 4095, 4097, 4096 + 2048, r - 1, r + 1, r + 4096, 2 * r, 4 * r, 1 << 32, 1 << 62, 1 << 63, math.MaxUint64, -r} {
			wrong = append(wrong, api.Block{P: c.Base, Size: size}, api.Block{P: 0, Size: size}, api.Block{P: end - r, Size: size})
		}
		for size := uint64(16); size <= r; size *= 2 {
			good := []api.Block{{P: c.Base, Size: size}, {P: end - size, Size: size}}
			wantsSound(t, lays(t, c, 2, good, nil), good)
			for _, p := range []uint64{0, size, c.Base - size, c.Base + size/2, c.Base + 1, c.Base + 8, c.Base + size - 1, end - size/2, end - 1, end, end + size, end + r, 1<<63 - size, 1 << 63, 1<<63 + c.Base, -size, -c.Base, math.MaxUint64} {
				wrong = append(wrong, api.Block{P: p, Size: size})
			}
		}
		for _, b := range wrong {
			refusesLay(t, "no block", c, 2, []api.Block{b}, nil)
			refusesLay(t, "no block behind one", c, 2, []api.Block{{P: c.Base + r, Size: 4096}, b}, nil)
			refusesLay(t, "no block, without a region", c, 0, []api.Block{b}, nil)
		}
		refusesLay(t, "a block, without a region", c, 0, []api.Block{{P: c.Base, Size: 16}}, nil)
		refusesLay(t, "a block in the next region", c, 1, []api.Block{{P: c.Base + r, Size: 16}}, nil)
	}
}

// P10.3: any two blocks of a region of four pages, in both orders: taken just if they are disjoint, and small ones of unlike sizes not on one page.
func TestTwoBlocks(t *testing.T) {
	c := config(2, 1)
	var all []api.Block
	for size := uint64(16); size <= 16384; size *= 2 {
		for _, p := range []uint64{0, size, 2048, 4096 - size, 4096, 4096 + size, 8192 - size, 8192, 12288, 16384 - size} {
			if p%size == 0 && p < 16384 {
				all = append(all, api.Block{P: c.Base + p, Size: size})
			}
		}
	}
	met := map[bool]int{}
	for _, one := range all {
		for _, other := range all {
			blocks := []api.Block{one, other}
			is := fits(c, 1, blocks, nil)
			met[is]++
			if !is {
				refusesLay(t, "two that don't go together", c, 1, blocks, nil)
				continue
			}
			im := lays(t, c, 1, blocks, nil)
			slices.SortFunc(blocks, func(a, b api.Block) int { return int(a.P) - int(b.P) })
			wantsSame(t, "two", im, laid(c, 1, blocks, nil))
		}
	}
	if met[true] < 500 || met[false] < 500 {
		t.Error(met)
	}
}

// spoilBlocks makes blocks, most often, none that can be live together.
func spoilBlocks(c api.Config, blocks []api.Block, row *numbers) []api.Block {
	blocks = slices.Clone(blocks)
	r := 4096 * regionPages(c)
	any := api.Block{P: c.Base + 16*uint64(row.below(c.Limit*r/16)), Size: 16 << row.below(9+c.Order)}
	any.P -= any.P % any.Size
	if len(blocks) == 0 {
		return []api.Block{any}
	}
	one := &blocks[row.below(len(blocks))]
	switch row.below(8) {
	case 0:
		return append(blocks, *one)
	case 1:
		one.Size *= 2
	case 2:
		one.Size /= 2
	case 3:
		one.P += one.Size
	case 4:
		one.P += one.Size / 2
	case 5:
		return append([]api.Block{any}, blocks...)
	case 6:
		one.P -= one.Size
	default:
		one.P, one.Size = any.P, any.Size
	}
	return blocks
}

// P10.3: blocks that were spoilt in some way, with contents that may be too long: taken just if they can be.
func TestSpoiltBlocks(t *testing.T) {
	met := map[bool]int{}
	for seed := range 3000 {
		row := numbers(seed)
		c := config(row.below(5), 1+row.below(3))
		regions := row.below(c.Limit + 1)
		blocks := drawn(c, regions, &row)
		if len(blocks) > 300 {
			continue // each is held against each
		}
		contents := drawnContents(blocks, &row)
		if row.below(4) > 0 {
			blocks = spoilBlocks(c, blocks, &row)
		} else if len(contents) > 0 && row.below(2) == 0 {
			i := row.below(len(contents))
			contents[i] = make([]byte, int(blocks[i].Size)+row.below(2))
		}
		contents = contents[:min(len(contents), row.below(len(contents)+3))]
		is := fits(c, regions, blocks, contents)
		met[is]++
		if !is {
			refusesLay(t, "spoilt", c, regions, blocks, contents)
			continue
		}
		wantsSame(t, "spoilt but right", lays(t, c, regions, blocks, contents), laid(c, regions, blocks, contents))
	}
	if met[true] < 500 || met[false] < 500 {
		t.Error(met)
	}
}

// P10.6: Load of what Lay tells has just these live blocks, with these contents; and Lay of them, and of what they hold, is the same image.
func TestLaidAndLoaded(t *testing.T) {
	for seed := range 90 {
		row := numbers(seed)
		c := config(seed%9, 1+row.below(4))
		regions := row.below(c.Limit + 1)
		blocks := drawn(c, regions, &row)
		contents := drawnContents(blocks, &row)
		list, held := shuffled(blocks, contents, &row)
		im := lays(t, c, regions, list, held)
		h := loads(t, im)
		if !slices.Equal(h.Live(), blocks) || h.Config() != c || h.Stats().H != uint64(len(im.Mem)) {
			t.Fatalf("Load: %v, %v, %v", h.Config(), h.Stats(), h.Live())
		}
		var all [][]byte
		for i, b := range blocks {
			got, e := h.Read(b.P, b.Size)
			if e != api.OK || !bytes.Equal(got, append(slices.Clone(contents[i]), make([]byte, int(b.Size)-len(contents[i]))...)) {
				t.Fatalf("the block %v holds something else: %v", b, e)
			}
			all = append(all, got)
		}
		wantsSame(t, "laid again", lays(t, c, regions, h.Live(), all), im)
		if rule, _ := walk.Check(im); rule != 0 {
			t.Fatal("what Lay told is not sound any more")
		}
	}
}

// P10.6: and of a heap that calls have gone over: Lay of its live blocks, and of what they hold, is a heap with the same blocks, contents and figures.
func TestHeapsLaidAnew(t *testing.T) {
	for seed := range 45 {
		row := numbers(seed)
		h := newHeap(t, config(seed%9, 1+row.below(4)))
		for range 80 {
			anyCall(h, &row)
		}
		blocks, contents := h.Live(), held(t, h)
		regions := int(h.Stats().H) / (4096 * regionPages(h.Config()))
		im := laysAs(t, h.Config(), regions, blocks, contents, &row)
		other := loads(t, im)
		if !slices.Equal(other.Live(), blocks) || other.Stats() != h.Stats() || !slices.EqualFunc(held(t, other), contents, bytes.Equal) {
			t.Fatalf("seed %d: another heap", seed)
		}
	}
}
